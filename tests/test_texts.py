"""Promise [31], its part on the text of a kind."""

import random
import re
import unittest

from mustwait.builders import account, cell, pool, queue, switch
from mustwait.errors import InvalidText
from mustwait.kinds import Kind
from test_kinds import says_states
from values import ANY_VALUES, random_states

WORD = "[a-z0-9]+"
STEP = f" {WORD} {WORD} (?:0|[1-9][0-9]*)"
LINE = re.compile(f"(0|[1-9][0-9]*):((?:{STEP}(?:,{STEP})*)?)")


def says_text(text):
    """The states that a text tells, or None; promise [31] once more, written another way."""
    if type(text) is not str:
        return None
    rows = []
    for number, line in enumerate(text.split("\n")):
        match = LINE.fullmatch(line)
        if match is None or match.group(1) != str(number):
            return None
        steps = [step.split() for step in match.group(2).split(",") if step]
        rows.append(tuple((operation, answer, int(goal)) for operation, answer, goal in steps))
    return tuple(rows) if says_states(tuple(rows)) else None


class Text(unittest.TestCase):
    def test_ordinary(self):
        self.assertEqual(account(1, 1).text, "0: put1 ok 1, take1 no 0\n1: put1 full 1, take1 ok 0")
        self.assertEqual(switch().text, "0: look off 0, turn ok 1\n1: look on 1, turn ok 1")

    def test_states_without_events(self):
        self.assertEqual(Kind(()).text, "0:")
        self.assertEqual(Kind((), ()).text, "0:\n1:")
        self.assertEqual(Kind((), (("a", "b", 1),), ()).text, "0:\n1: a b 1\n2:")

    def test_two_digits(self):
        kind = Kind(*[(("go", "ok", (number + 1) % 40),) for number in range(40)])
        lines = kind.text.split("\n")
        self.assertEqual([lines[9], lines[10], lines[39]], ["9: go ok 10", "10: go ok 11", "39: go ok 0"])

    def test_given_back(self):
        chance = random.Random(31)
        kinds = [account(2, 1), queue(2, "a", "b"), pool(2, "a", "b"), cell("a"), Kind(()), Kind((), ())]
        kinds += [Kind(*random_states(chance, chance.randrange(1, 41), ("a", "b", "0"), 0.3)) for _ in range(50)]
        for kind in kinds:
            found = Kind.read(kind.text)
            self.assertIsInstance(found, Kind)
            self.assertEqual(found, kind)
            self.assertEqual(Kind.read(text=kind.text).text, kind.text)


class Read(unittest.TestCase):
    def bad(self, *texts):
        for text in texts:
            with self.assertRaises(InvalidText, msg=repr(text)):
                Kind.read(text)

    def test_the_texts_that_the_others_change(self):
        self.assertEqual(Kind.read("0: a x 1, b y 0\n1:").states, ((("a", "x", 1), ("b", "y", 0)), ()))

    def test_the_empty_text(self):
        self.bad("", "\n", " ", ":", "0", "0 :", "0: ", "0:,", "0: ,")

    def test_numbers(self):
        self.bad("00: a x 0", "0: a x 00", "0: a x 01\n1:", "0:\n01:", "0: a x +0", "0: a x -0", "+0:", "-0:")
        self.bad("0: a x -1\n1:", "0: a x 0x0", "0: a x 0.0", "0: a x 1_0", "0: a x \u0660", "0: a x \u00b2", "0: a x ")
        self.bad("0: a x " + "9" * 39, "0: a x " + "1" * 3000, "0: a x " + "1" * 9000, "1" * 9000 + ":")

    def test_spaces(self):
        self.bad("0:  a x 0", "0: a  x 0", "0: a x  0", "0: a x 0 ", " 0: a x 0", "0 : a x 0", "0: a x 0, ")
        self.bad("0:a x 0", "0: ax 0", "0: a x0", "0: a x 0,b y 0", "0: a x 0 , b y 0", "0: a x 0,  b y 0", "0:\n 1:")
        self.bad("0:\ta x 0", "0: a\tx 0", "0: a x 0\r\n1:", "0:\r1:", "0: \n1:")

    def test_commas(self):
        self.bad("0: a x 0,, b y 0", "0: a x 0,", "0:, a x 0", "0: a x 0 b y 0", "0: a, x 0", "0: a x 0;, b y 0")

    def test_colons(self):
        self.bad("0", "0 a x 0", "0:: a x 0", ": a x 0", "0: a x 0:", "0;", "0:1:")

    def test_line_feeds(self):
        self.bad("0:\n", "\n0:", "0:\n\n1:", "0: a x 0\n", "0: a x 1, b y 0\n1:\n", "0: a x 0,\n b y 0", "0:\n a x 0")

    def test_lines_left_out_doubled_or_exchanged(self):
        text = account(2, 1).text
        lines = text.split("\n")
        for rows in ([lines[0], lines[2]], lines[1:], lines[:2], lines + lines, lines + lines[2:], lines[::-1],
                     [lines[0], lines[2], lines[1]], [lines[0]] + lines, lines[:1] + lines[:1]):
            self.bad("\n".join(rows))
        self.bad("1:", "0:\n2:", "0:\n0:", "1:\n0:")

    def test_events_in_another_order_or_twice(self):
        self.bad("0: b y 0, a x 0", "0: a y 0, a x 0", "0: a x 0, a x 0", "0: a x 0, a x 1\n1:")

    def test_words(self):
        self.assertEqual(Kind.read("0: " + "a" * 12 + " " + "b" * 12 + " 0").states, ((("a" * 12, "b" * 12, 0),),))
        self.bad("0: " + "a" * 13 + " b 0", "0: a " + "b" * 13 + " 0", "0: A x 0", "0: a X 0", "0: a_ x 0", "0: a  0")
        self.bad("0: \u00e4 x 0", "0: a x", "0: a x 0 0", "0: a 0")

    def test_a_state_that_is_not_there(self):
        self.bad("0: a x 1", "0: a x 2\n1:", "0: a x 40", "0:\n1: a x 2")

    def test_forty_states(self):
        lines = [f"{number}: go ok {39 - min(number, 39)}" for number in range(41)]
        self.assertEqual(len(Kind.read("\n".join(lines[:40]))), 40)
        self.bad("\n".join(lines))

    def test_twenty_four_events(self):
        steps = [f" do a{number:02d} 0" for number in range(25)]
        self.assertEqual(len(Kind.read("0:" + ",".join(steps[:24])).events), 24)
        self.bad("0:" + ",".join(steps))

    def test_any_value(self):
        kind = account(2, 1)
        values = ANY_VALUES + [kind, kind.states, (kind.text,), [kind.text], {kind.text: 1}, kind.text.encode()]
        self.bad(*values)
        self.bad("0:" * 2000, "0:\n" * 1300, " " * 4000, "," * 4000, ":" * 4000, "0: " + " a" * 1900, kind.text * 300)

    def test_changed_texts(self):
        chance = random.Random(32)
        starts = [account(2, 1).text, queue(1, "a").text, "0:\n1:", "0: a x 1\n1: a y 0", switch().text]
        letters = "01290abx :,\n-+~A"
        counts = [0, 0]
        for _ in range(8000):
            text = chance.choice(starts)
            for _ in range(chance.choice([1, 1, 1, 2, 3])):
                at = chance.randrange(len(text) + 1)
                end = min(len(text), at + chance.randrange(3))
                text = text[:at] + chance.choice(["", "", chance.choice(letters), text[at:end] * 2]) + text[end:]
            wanted = says_text(text)
            counts[wanted is not None] += 1
            if wanted is None:
                self.bad(text)
            else:
                self.assertEqual(Kind.read(text).states, wanted)
                self.assertEqual(Kind.read(text).text, text)
        self.assertGreater(min(counts), 500)
