"""Promise [31], its part on the text of a history."""

import random
import unittest

import drawn
from mustwait.builders import account, cell, switch
from mustwait.errors import InvalidText, StoreError
from mustwait.histories import history_text, is_history, read_history
from mustwait.kinds import Kind
from values import ANY_VALUES

LETTER, PURSE = cell("a", "b"), account(2, 1)
SHOP = (LETTER, PURSE)
DAY = (("begin",), ("begin",), ("did", 0, 0, "setb", "ok"), ("did", 1, 0, "read", "a"), ("did", 1, 1, "put1", "ok"))
# Words that look like other parts of a line.
ODD = (Kind((("0", "commit", 0), ("begin", "0", 0), ("commit", "1", 0), ("did", "abort", 0))),)


class Texts(unittest.TestCase):
    def test_ordinary(self):
        history = DAY + (("commit", 1), ("abort", 0))
        text = "begin\nbegin\n0 0 setb ok\n1 0 read a\n1 1 put1 ok\ncommit 1\nabort 0"
        self.assertEqual(history_text(history), text)
        self.assertEqual(read_history(SHOP, text), history)

    def test_empty(self):
        self.assertEqual(history_text(()), "")
        self.assertEqual(read_history(SHOP, ""), ())

    def test_one_line(self):
        self.assertEqual(history_text((("begin",),)), "begin")
        self.assertEqual(read_history(SHOP, "begin"), (("begin",),))

    def test_numbers_beyond_nine(self):
        history = (("begin",),) * 123 + (("did", 122, 1, "put1", "ok"), ("commit", 10), ("abort", 99), ("commit", 100))
        text = history_text(history)
        self.assertTrue(text.endswith("begin\n122 1 put1 ok\ncommit 10\nabort 99\ncommit 100"))
        self.assertEqual(read_history(SHOP, text), history)

    def test_many_objects_and_few_lines(self):
        system = (LETTER, LETTER, LETTER, PURSE)
        history = (("begin",), ("did", 0, 3, "put1", "ok"))
        self.assertEqual(read_history(system, history_text(history)), history)

    def test_words_of_other_lines_as_events(self):
        history = (("begin",), ("begin",)) + tuple(("did", 1, 0) + event for event in ODD[0].events)
        self.assertEqual(history_text(history), "begin\nbegin\n1 0 0 commit\n1 0 begin 0\n1 0 commit 1\n1 0 did abort")
        self.assertEqual(read_history(ODD, history_text(history)), history)

    def test_drawn(self):
        source = random.Random(31)
        for _ in range(400):
            system = drawn.system(source, 4)
            history = drawn.history(source, system, source.randrange(60), 12)
            self.assertEqual(read_history(system, history_text(history)), history)

    def test_by_name(self):
        self.assertEqual(history_text(history=()), "")
        self.assertEqual(read_history(text="begin", system=SHOP), (("begin",),))


class NoTexts(unittest.TestCase):
    def no(self, text, system=SHOP):
        with self.assertRaises(InvalidText) as caught:
            read_history(system, text)
        self.assertIsInstance(caught.exception, StoreError)

    def test_other_events(self):
        self.no("begin\n0 0 put1 ok")
        self.no("begin\n0 1 read a")
        self.no("begin\n0 0 read c")
        self.no("begin\n0 2 read a")
        self.no("begin\n0 0 look off")
        self.no(history_text(DAY), (LETTER,))
        self.no(history_text(DAY), (switch(), switch()))
        self.no(history_text(DAY), (PURSE, LETTER))

    def test_transactions_that_are_not_open(self):
        for line in ("0 0 read a", "commit 0", "abort 0"):
            self.no(line)
            self.no("begin\ncommit 0\n" + line)
            self.no("begin\nabort 0\n" + line)
            self.no("begin\n" + line.replace("0", "1", 1))
            self.assertEqual(len(read_history(SHOP, "begin\n" + line)), 2)

    def test_numbers(self):
        for number in ("00", "01", "+0", "-0", "-1", "0.0", "0x0", "", "a", "zero", "1e0", "0_0", " 0", "0 ", "0" * 4000):
            self.no(f"begin\nbegin\n{number} 0 read a")
            self.no(f"begin\nbegin\n0 {number} read a")
            self.no(f"begin\nbegin\ncommit {number}")
            self.no(f"begin\nbegin\nabort {number}")

    def test_spaces(self):
        for text in (
            " begin", "begin ", "begin\n0  0 read a", "begin\n0 0 read  a", "begin\n0 0 read a ", "begin\n 0 0 read a",
            "begin\n00 read a", "begin\n0 0 reada", "begin\ncommit0", "begin\ncommit  0", "begin\n commit 0",
            "begin\nabort 0 ", "begin begin", "begin\t", "begin\n0\t0 read a", "beg in", " ", "begin\n \n",
        ):
            self.no(text)

    def test_line_feeds(self):
        for text in ("\n", "begin\n", "\nbegin", "begin\n\nbegin", "begin\n\n", "\n\n", "begin\r\nbegin", "be\ngin"):
            self.no(text)

    def test_words_of_other_lines(self):
        for text in (
            "Begin", "BEGIN", "begin 0", "start", "begin\nbegin\nbegin 1", "begin\ncommit", "begin\nabort",
            "begin\ncommit 0 0", "begin\ndid 0 0 read a", "begin\n0 0 read", "begin\n0 0 read a a", "begin\nread a 0 0",
            "begin\n0 commit", "begin\nCommit 0", "begin\ncommits 0", "begin\n0 read a", "begin\n0 0 a read", "0",
            "begin\nbegin 0", "begin\ncommit commit", "begin\n0 0 0 0", "begin\ndrop 0",
        ):
            self.no(text)

    def test_values_that_are_no_strings(self):
        for thing in ANY_VALUES:
            if thing != "":
                self.no(thing)
        self.no(DAY)
        self.no(["begin"])
        self.no(b"begin")

    def test_changed(self):
        source = random.Random(32)
        found = {True: 0, False: 0}
        for _ in range(2000):
            system = drawn.system(source, 2)
            text = history_text(drawn.history(source, system, source.randrange(12)))
            at = source.randrange(len(text) + 1)
            letters = source.choice(["", "0", "1", " ", "\n", "a", "begin\n", "\nbegin"])
            other = text[:at] + letters + text[at + source.randrange(2):]
            try:
                history = read_history(system, other)
            except InvalidText:
                found[False] += 1
                continue
            # What is read is a history, and has just this text.
            self.assertIs(is_history(system, history), True)
            self.assertEqual(history_text(history), other)
            found[True] += 1
        self.assertGreater(found[True], 50)
        self.assertGreater(found[False], 50)
