"""Promise [33]: the console, its commands and answers."""

import random
import unittest

import plain
from mustwait.console import Console
from mustwait.errors import InvalidCommand, StoreError, TooMany
from mustwait.histories import log_of
from mustwait.orders import is_fine
from mustwait.stores import Store
from plain_console import PlainConsole
from values import ANY_VALUES

SHOP = ("object cell a b", "object account 2 1")


def console_of(*lines):
    console = Console()
    for line in lines:
        console.say(line)
    return console


class Talking(unittest.TestCase):
    def talk(self, console, *pairs):
        for command, answer in pairs:
            told = console.say(command)
            self.assertEqual(told, answer, command)
            self.assertIs(type(told), str)

    def invalid(self, console, *commands):
        for command in commands:
            with self.assertRaises(InvalidCommand) as caught:
                console.say(command)
            self.assertIs(type(caught.exception), InvalidCommand)
            self.assertIsInstance(caught.exception, StoreError)


class Commands(Talking):
    def test_the_example(self):
        self.talk(
            Console(), ("object cell a b", "0"), ("object account 2 1", "1"), ("begin", "0"), ("begin", "1"),
            ("ask 0 0 setb", "ok"), ("ask 1 0 read", "a"), ("ask 1 1 put1", "ok"), ("ask 0 1 take1", "waits"),
            ("why 0", "no if 1 aborts; ok if 1 commits"), ("commit 1", "ok; 0 ok"),
        )

    def test_each_builder(self):
        # What each object answers to a transaction alone.
        for made, asked in (
            ("cell a b", (("read", "a"), ("setb", "ok"), ("read", "b"))),
            ("cell a", (("seta", "ok"), ("read", "a"))),
            ("counter 2", (("add", "ok"), ("read", "1"), ("sub", "ok"), ("read", "0"))),
            ("counter 0", (("read", "0"),)),
            ("account 2 1", (("take1", "no"), ("put1", "ok"), ("put1", "ok"), ("put1", "full"), ("take1", "ok"))),
            ("account 10 3 7", (("put7", "ok"), ("put3", "ok"), ("put3", "full"), ("take7", "ok"), ("take7", "no"))),
            ("queue 2 a b", (("puta", "ok"), ("putb", "ok"), ("take", "a"), ("take", "b"))),
            ("pool 2 a b", (("putb", "ok"), ("puta", "ok"), ("take", "a"), ("take", "b"))),
            ("stack 2 a b", (("puta", "ok"), ("putb", "ok"), ("take", "b"), ("take", "a"))),
            ("switch", (("look", "off"), ("turn", "ok"), ("look", "on"))),
            ("tickets 3", (("next", "1"), ("next", "2"), ("next", "3"), ("next", "never"))),
            ("permits 2", (("get", "ok"), ("get", "ok"), ("back", "ok"), ("get", "ok"))),
        ):
            console = Console()
            self.talk(console, ("object " + made, "0"), ("begin", "0"))
            self.talk(console, *[(f"ask 0 0 {operation}", answer) for operation, answer in asked])

    def test_four_objects(self):
        console = Console()
        self.talk(console, *[("object switch", str(at)) for at in range(4)], ("begin", "0"))
        self.talk(console, *[(f"ask 0 {at} look", "off") for at in range(4)])
        self.invalid(console, "ask 0 4 look")

    def test_nothing_yet(self):
        console = console_of("object switch")
        self.talk(console, ("running", "none"), ("kept", "none"), ("waiting", "none"), ("knot", "none"), ("object switch", "1"))
        self.talk(console, ("begin", "0"), ("running", "0"), ("kept", "0"), ("waiting", "none"), ("knot", "none"))

    def test_full(self):
        console = console_of(*SHOP)
        self.talk(console, *[("begin", str(number)) for number in range(10)], ("begin", "full"))
        self.talk(console, ("running", "0 1 2 3 4 5 6 7 8 9"), ("abort 3", "ok"), ("begin", "10"), ("begin", "full"))
        self.talk(console, ("kept", "0 1 2 4 5 6 7 8 9 10"))

    def test_running_and_kept(self):
        console = console_of("object queue 2 a b", "begin", "begin")
        self.talk(console, ("ask 0 0 puta", "ok"), ("ask 1 0 putb", "ok"), ("commit 0", "ok"))
        self.talk(console, ("running", "1"), ("kept", "0 1"), ("commit 1", "ok"), ("running", "none"), ("kept", "none"))

    def test_waiting_is_longest_first(self):
        console = console_of("object permits 1", "begin", "begin", "begin")
        self.talk(console, ("ask 0 0 get", "ok"), ("ask 2 0 get", "waits"), ("ask 1 0 get", "waits"), ("waiting", "2 1"))
        self.talk(console, ("drop 2", "ok"), ("waiting", "1"), ("drop 2", "ok"), ("drop 0", "ok"), ("waiting", "1"))

    def test_news(self):
        console = console_of("object permits 1", "object switch", *["begin"] * 4)
        self.talk(console, ("ask 0 0 get", "ok"), ("ask 1 0 get", "waits"), ("ask 2 0 get", "waits"))
        # The first one is given, and so the other one can wait on.
        self.talk(console, ("abort 0", "ok; 1 ok"), ("waiting", "2"), ("drop 2", "ok"))
        # What has been told is not told again.
        self.talk(console, ("ask 3 1 look", "off"), ("commit 3", "ok"))

    def test_news_behind_an_answer(self):
        # Once 0 has given back what it got, the others can have it whoever commits.
        console = console_of("object permits 1", "begin", "begin", "begin")
        self.talk(console, ("ask 0 0 get", "ok"), ("ask 2 0 get", "waits"), ("ask 1 0 get", "waits"))
        self.talk(console, ("ask 0 0 back", "ok; 2 ok"), ("waiting", "1"), ("ask 2 0 back", "ok; 1 ok"), ("waiting", "none"))

    def test_never_among_the_news(self):
        console = console_of("object switch", "object switch", "begin", "begin", "begin")
        self.talk(console, ("ask 0 0 look", "off"), ("ask 1 1 look", "off"), ("ask 0 1 turn", "ok"), ("ask 1 0 turn", "waits"))
        self.talk(console, ("commit 0", "ok; 1 never"), ("waiting", "none"), ("ask 1 0 turn", "never"), ("waiting", "none"))
        self.talk(console, ("ask 2 0 look", "off"))

    def test_several_news(self):
        console = console_of("object tickets 1", "begin", "begin", "begin", "begin")
        self.talk(console, ("ask 2 0 next", "1"), ("ask 3 0 next", "waits"), ("ask 0 0 next", "waits"), ("ask 1 0 next", "waits"))
        self.talk(console, ("drop 0", "ok"), ("commit 2", "ok; 3 never; 1 never"), ("waiting", "none"))
        console = console_of("object permits 2", *["begin"] * 4)
        self.talk(console, ("ask 0 0 get", "ok"), ("ask 0 0 get", "ok"), ("ask 3 0 get", "waits"), ("ask 1 0 get", "waits"))
        self.talk(console, ("abort 0", "ok; 3 ok; 1 ok"), ("waiting", "none"))

    def test_why(self):
        console = console_of("object account 2 1", *["begin"] * 3)
        self.talk(console, ("ask 0 0 put1", "ok"), ("ask 1 0 put1", "ok"), ("ask 2 0 put1", "waits"))
        self.talk(console, ("why 2", "full if 0 commits 1 commits; ok if 0 aborts; ok if 1 aborts"))
        self.talk(console, ("commit 0", "ok"), ("why 2", "full if 1 commits; ok if 1 aborts"))

    def test_why_with_both(self):
        # Commits and aborts stand together in the order of the numbers.
        source = random.Random(3)
        mixed = 0
        for _ in range(300):
            mine, other = Console(), PlainConsole()
            for line in ("object account 2 1", "object cell a b") + ("begin",) * 5:
                self.assertEqual(mine.say(line), other.say(line))
            for _ in range(12):
                place, operation = source.choice([(0, "put1"), (0, "put1"), (0, "take1"), (1, "seta"), (1, "setb"), (1, "read")])
                both(self, mine, other, f"ask {source.randrange(5)} {place} {operation}")
            for number in other.store.waiting:
                told = both(self, mine, other, f"why {number}")
                for part in told.split("; "):
                    words = part.split(" ")[2:]
                    self.assertEqual([int(one) for one in words[::2]], sorted(int(one) for one in words[::2]))
                    mixed += len(set(words[1::2])) == 2
        self.assertGreater(mixed, 5)

    def test_why_operations(self):
        console = console_of("object queue 2 a b", "begin")
        self.talk(console, ("ask 0 0 take", "waits"), ("why 0", "operations"))
        self.talk(console, ("begin", "1"), ("ask 1 0 puta", "ok"), ("why 0", "a if 1 commits"), ("commit 1", "ok; 0 a"))

    def test_why_of_one_that_goes_on_waiting(self):
        # Too many nodes at the look behind the abort, and few enough when it is asked why.
        console = console_of("object permits 1", "begin", "begin")
        self.talk(console, ("ask 0 0 get", "ok"), ("ask 1 0 get", "waits"))
        console.store.view.most = 1
        self.talk(console, ("abort 0", "ok"), ("waiting", "1"))
        console.store.view.most = 5000
        self.assertEqual(console.store.why(1)[0], "given")
        self.talk(console, ("why 1", "operations"), ("knot", "none"))

    def test_knot(self):
        console = console_of("object permits 1", "object permits 1", "begin", "begin", "begin")
        self.talk(console, ("ask 0 0 get", "ok"), ("ask 1 1 get", "ok"), ("ask 0 1 get", "waits"), ("knot", "none"))
        self.talk(console, ("ask 1 0 get", "waits"), ("knot", "0 1"), ("abort 1", "ok; 0 ok"), ("knot", "none"))

    def test_never(self):
        console = console_of("object tickets 1", "begin", "begin")
        self.talk(console, ("ask 0 0 next", "1"), ("ask 0 0 next", "never"), ("ask 1 0 next", "waits"), ("why 1", "1 if 0 aborts"))
        self.talk(console, ("commit 0", "ok; 1 never"), ("ask 1 0 next", "never"), ("commit 1", "ok"), ("kept", "none"))

    def test_stale_news_are_not_told_with_never(self):
        console = console_of("object tickets 1", "object switch", "begin", "begin", "begin")
        self.talk(console, ("ask 0 0 next", "1"), ("ask 1 0 next", "waits"), ("commit 0", "ok; 1 never"), ("ask 1 0 next", "never"))
        self.talk(console, ("ask 2 0 next", "never"), ("ask 2 1 look", "off"))

    def test_by_name(self):
        self.assertEqual(Console().say(command="object switch"), "0")


def both(test, mine, other, line):
    """What both consoles answer; None if it is no command, or if there are too many nodes."""
    told = []
    for console in (mine, other):
        try:
            told.append(console.say(line))
        except (InvalidCommand, TooMany) as error:
            told.append(type(error))
    test.assertEqual(told[0], told[1], line)
    return told[0] if isinstance(told[0], str) else None


class Invalid(Talking):
    LINES = (
        "", " ", "  ", "begin ", " begin", "Begin", "BEGIN", "begin begin", "begin 0", "begins", "begin\n", "\nbegin", "begin\t",
        "run", "running ", " running", "running 0", "kept 0", "waiting 0", "knot 0", "knots", "none", "why", "drop", "commit",
        "abort", "ask", "ask 0", "ask 0 0", "ask 0 0 ", "ask  0 0 read", "ask 0  0 read", "ask 0 0  read", "ask 0 0 read ",
        " ask 0 0 read", "ask 0 0 read\n", "ask 0 0\nread", "ask 0 0 read a", "ask 0 0 take1", "ask 0 1 read", "ask 0 2 read",
        "ask 0 -1 read", "ask 0 +0 read", "ask 0 00 read", "ask 00 0 read", "ask +0 0 read", "ask -0 0 read", "ask 2 0 read",
        "ask 0.0 0 read", "ask 0 0 reads", "ask 0 0 Read", "ask a 0 read", "ask 0 a read", "ask 0 0 0", "ask 1 1 1", "ask one 0 read",
        "commit", "commit ", "commit 2", "commit 00", "commit +0", "commit -1", "commit 01", "commit 0 ", "commit  0", "commit 0 1",
        "commit 0\n", "commit a", "Commit 0", "commits 0", "commit 0x0", "commit 1e0", "commit 0.0", "commit " + "9" * 500,
        "commit " + "0" * 500, "commit " + "9" * 3990, "abort 2", "abort 01", "abort  0", "abort 0 0", "drop 2", "drop 00", "drop 0 0",
        "why 0", "why 1", "why 2", "why 00", "why 0 0", "why a", "0", "0 commit", "ask 0 read 0", "ask 0 0 setb setb",
        "ask 0 " + "9" * 400 + " read", "ask " + "9" * 400 + " 0 read", "say begin", "object", "object switch", "object cell a",
        "why 0 0 read", "begin 0 0 read", "commit 0 0 read", "read 0 0 read", "asks 0 0 read", "0 0 0 read", "ask 0 read", "ask 0 0 0 read",
        "a" * 4000, " " * 4000, "begin;", "begin; begin", "ok", "ask 0 0 read; 1 ok", "ask 0 0 'read'",
    )
    OBJECTS = (
        "object", "object ", "object  switch", "object switch ", " object switch", "object Switch", "object switch 1", "object switch a",
        "object lamp", "object beside switch switch", "object cell", "object cell ", "object cell  a", "object cell a  b", "object cell a a",
        "object cell A", "object cell a-b", "object cell abcdefghijklm", "object cell abcdefghij", "object counter", "object counter -1",
        "object counter 01", "object counter 00", "object counter +1", "object counter 1 2", "object counter a", "object counter 1.0",
        "object counter 40", "object counter " + "9" * 300, "object counter " + "9" * 3980, "object counter 1\n", "object counter ",
        "object account", "object account 2", "object account 2 ", "object account 2 0", "object account 2 3", "object account 2 1 1",
        "object account 2 01", "object account 02 1", "object account 2 1 a", "object account a 1", "object account 2 -1",
        "object account 100000000000 1", "object account " + "9" * 300 + " 1", "object account 99 " + "9" * 300, "object account 0 0",
        "object account 0 1", "object queue", "object queue 2", "object queue a", "object queue 0 a", "object queue 2 a a", "object queue a 2",
        "object queue 02 a", "object queue 2 A", "object queue 9 a b", "object queue 100000 a", "object pool", "object pool 2",
        "object pool 0 a", "object pool 2 a a", "object pool 99 a b c", "object stack", "object stack 2", "object stack 0 a", "object stack 2 a a",
        "object stack " + "9" * 200 + " a", "object tickets", "object tickets 01", "object tickets 40", "object tickets 1 2", "object tickets a",
        "object tickets " + "9" * 1001, "object permits", "object permits 40", "object permits 01", "object permits 1 2", "object permits a",
        "object permits -1", "object permits " + "9" * 2000, "object cell\na", "object\ncell a", "objects switch", "object 0", "object 2 switch",
    )

    def test_lines(self):
        console = console_of(*SHOP, "begin", "begin")
        for line in self.LINES:
            self.invalid(console, line)
            self.assertEqual([console.say(word) for word in ("running", "kept", "waiting", "knot")], ["0 1", "0 1", "none", "none"])
        self.talk(console, ("ask 0 0 read", "a"), ("commit 1", "ok"), ("begin", "2"))

    def test_objects(self):
        console = Console()
        self.invalid(console, *self.OBJECTS)
        self.talk(console, ("object switch", "0"))
        self.invalid(console, *self.OBJECTS)
        self.talk(console, ("object cell a b", "1"), ("begin", "0"), ("ask 0 1 setb", "ok"), ("ask 0 0 look", "off"))

    def test_edges_of_builders(self):
        for line in ("object counter 21", "object tickets 24", "object permits 39", "object account 39 1", "object cell a b c d"):
            self.talk(Console(), (line, "0"))
        self.invalid(Console(), "object counter 22", "object tickets 25", "object permits 40", "object account 40 1")

    def test_values_of_all_kinds(self):
        console = console_of(*SHOP, "begin", "begin")
        empty = Console()
        for thing in ANY_VALUES:
            self.invalid(console, thing)
            self.invalid(empty, thing)
            self.invalid(console, (thing,), [thing], ("begin", thing))
        for thing in (0, True, None, ["begin"], ("begin",), {"begin": 1}, ("ask", 0, 0, "read"), ["ask", "0", "0", "read"]):
            self.invalid(console, thing)
        self.assertEqual([console.say("running"), empty.say("object switch")], ["0 1", "0"])

    def test_no_object_yet(self):
        console = Console()
        self.invalid(console, "begin", "running", "kept", "waiting", "knot", "ask 0 0 read", "commit 0", "abort 0", "drop 0", "why 0")
        # That begin was not executed: so objects may still come.
        self.talk(console, ("object cell a b", "0"), ("begin", "0"))
        self.invalid(console, "object switch")

    def test_objects_behind_a_begin(self):
        console = console_of("object switch", "begin")
        self.invalid(console, "object switch", "object cell a")
        self.talk(console, ("abort 0", "ok"))
        self.invalid(console, "object switch")
        self.talk(console, ("begin", "1"), ("ask 1 0 look", "off"))

    def test_a_fifth_object(self):
        console = console_of(*["object switch"] * 4)
        self.invalid(console, "object switch", "object cell a")
        self.talk(console, ("begin", "0"), ("ask 0 3 turn", "ok"))

    def test_closed_ones(self):
        console = console_of("object switch", "begin", "begin", "begin", "commit 0", "abort 1")
        for number in (0, 1):
            self.invalid(console, f"ask {number} 0 look", f"commit {number}", f"abort {number}", f"drop {number}", f"why {number}")
        self.talk(console, ("running", "2"))

    def test_whoever_waits_asks_nothing(self):
        console = console_of("object permits 1", "begin", "begin", "ask 0 0 get", "ask 1 0 get")
        self.invalid(console, "ask 1 0 get", "ask 1 0 back", "ask 1 0 look", "why 0")
        self.talk(console, ("waiting", "1"), ("drop 1", "ok"), ("ask 1 0 get", "waits"), ("abort 0", "ok; 1 ok"))

    def test_each_command_again_behind_an_error(self):
        source = random.Random(4)
        words = "begin ask commit abort drop why running kept waiting knot object cell account 0 1 2 3 00 read setb put1 take1".split()
        for _ in range(60):
            mine, other = Console(), PlainConsole()
            for line in SHOP[:source.randrange(3)]:
                both(self, mine, other, line)
            for _ in range(40):
                line = source.choice([" ", " ", " ", "  "]).join(source.choice(words) for _ in range(source.choice([1, 1, 2, 2, 4, 4, 3])))
                if source.random() < 0.4:
                    line = f"ask {source.randrange(4)} {source.randrange(2)} {source.choice(words[-4:])}"
                both(self, mine, other, line + source.choice(["", "", "", "", " ", "\n"]))


class BesideAStore(Talking):
    def test_drawn_talks(self):
        source = random.Random(5)
        objects = {
            "cell a b": ("read", "seta", "setb"), "counter 2": ("add", "sub", "read"), "account 2 1": ("put1", "take1"),
            "queue 2 a b": ("puta", "putb", "take"), "pool 2 a b": ("puta", "putb", "take"), "stack 1 a": ("puta", "take"),
            "switch": ("look", "turn"), "tickets 2": ("next",), "permits 1": ("get", "back"),
        }
        news = 0
        for _ in range(900):
            mine, other = Console(), PlainConsole()
            made = [source.choice(sorted(objects)) for _ in range(source.randrange(1, 4))]
            for line in made:
                self.assertEqual(mine.say("object " + line), other.say("object " + line))
            for _ in range(25):
                running = other.store.running if other.store is not None else ()
                number = source.choice(running) if running and source.random() < 0.95 else source.randrange(7)
                place = source.randrange(len(made))
                line = source.choice(
                    ["begin"] * 2 + [f"ask {number} {place} {source.choice(objects[made[place]])}"] * 9
                    + [f"commit {number}", f"commit {number}", f"abort {number}", f"drop {number}", f"why {number}"]
                    + ["running", "kept", "waiting", "knot"]
                )
                told = both(self, mine, other, line)
                news += told is not None and ";" in told and not line.startswith("why")
        self.assertGreater(news, 15)

    def test_too_many(self):
        # Ten that set one cell: the last one has more than 5000 order nodes.
        words = "a b c d e f g h i j"
        lines = ["object cell " + words] + ["begin"] * 10 + [f"ask {at} 0 set{'abcdefghij'[at]}" for at in range(9)]
        console = console_of(*lines)
        with self.assertRaises(TooMany) as caught:
            console.say("ask 9 0 setj")
        self.assertEqual(caught.exception.most, 5000)
        self.talk(console, ("waiting", "none"), ("running", "0 1 2 3 4 5 6 7 8 9"), ("abort 8", "ok"), ("ask 9 0 setj", "ok"))

    def test_too_many_for_why_and_knot(self):
        mine, other = Console(), PlainConsole()
        lines = ["object cell a b c d e f g h", "object permits 1", "object cell a b c d"] + ["begin"] * 10
        lines += ["ask 0 1 get", "ask 9 1 get"] + [f"ask {at + 1} 0 set{'abcdefgh'[at]}" for at in range(8)]
        lines += ["ask 1 2 seta", "ask 8 2 setb", "ask 5 2 setc", "ask 3 2 setd", "why 9", "knot", "abort 0", "why 9", "knot", "waiting"]
        raised = 0
        for line in lines:
            told = both(self, mine, other, line)
            raised += told is None
        self.assertGreater(raised, 1)


class Day:
    """A console and the history of all that it has been told."""

    def __init__(self, *lines):
        self.console = console_of(*lines)
        self.history = ()
        self.wishes = {}

    def say(self, line):
        told = self.console.say(line)
        word, *rest = line.split(" ")
        answer, *news = told.split("; ")
        if word == "begin" and told != "full":
            self.history += (("begin",),)
        if word == "ask" and answer == "waits":
            self.wishes[rest[0]] = rest
        elif word == "ask" and answer != "never":
            self.did(rest, answer)
        if word in ("commit", "abort"):
            self.history += ((word, int(rest[0])),)
        if word in ("ask", "commit", "abort"):
            for part in news:
                number, given = part.split(" ")
                if given != "never":
                    self.did(self.wishes[number], given)
        return told

    def did(self, asked, answer):
        self.history += (("did", int(asked[0]), int(asked[1]), asked[2], answer),)

    def numbers(self, word):
        return [int(one) for one in self.say(word).replace("none", "").split()]


class Days(unittest.TestCase):
    """A whole day: what [3] promises, behind each step."""

    def go(self, seed):
        source = random.Random(seed)
        day = Day("object cell a b", "object account 2 1", "object permits 1")
        asks = ["0 read", "0 seta", "0 setb", "1 put1", "1 take1", "2 get", "2 back"]
        for _ in range(40):
            running = day.numbers("running")
            if len(running) < 3:
                day.say("begin")
                continue
            number = source.choice(running)
            line = source.choice([f"ask {number} {one}" for one in asks] * 2 + [f"commit {number}"] * 2 + [f"abort {number}"])
            if line.startswith("ask") and number in day.numbers("waiting"):
                continue
            day.say(line)
            self.check(day)
            knot = day.numbers("knot")
            if knot:
                day.say(f"abort {knot[0]}")
                self.check(day)
        self.end(day)

    def check(self, day):
        """Each outcome of the whole history has an order; each answer held back would leave some outcome without one."""
        store = day.console.store
        log = log_of(store.system, day.history)
        self.assertTrue(is_fine(store.system, log))
        self.assertTrue(plain.is_fine(store.system, store.log))
        for number in store.waiting:
            wish = store.wish(number)
            for answer in plain.possible_answers(store.system, wish):
                self.assertFalse(is_fine(store.system, plain.with_answer(log, wish, answer)))

    def end(self, day):
        while day.numbers("running"):
            for number in day.numbers("running"):
                if number not in day.numbers("waiting"):
                    day.say(f"commit {number}")
                    self.check(day)
            for number in day.numbers("running")[-1:]:
                day.say(f"abort {number}")
                self.check(day)
        self.assertEqual([day.say(word) for word in ("running", "waiting", "kept", "knot")], ["none"] * 4)

    def test_days(self):
        for seed in range(6):
            self.go(seed)


class Attributes(unittest.TestCase):
    def test_a_new_one(self):
        self.assertIsInstance(Console(), Console)
        first, second = console_of("object switch", "begin"), console_of("object switch")
        self.assertEqual([first.say("running"), second.say("running")], ["0", "none"])
        self.assertIsInstance(first.store, Store)


if __name__ == "__main__":
    unittest.main()
