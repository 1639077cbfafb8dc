"""The examples of the document's interface, word for word."""

import doctest
import unittest

EXAMPLES = r'''
>>> from mustwait.builders import account, cell, queue, switch
>>> PURSE, SMALL, LETTER, LINE = account(2, 1), account(1, 1), cell("a", "b"), queue(2, "a", "b")
>>> SHOP = (LETTER, PURSE)
>>> DAY = (("begin",), ("begin",), ("did", 0, 0, "setb", "ok"), ("did", 1, 0, "read", "a"), ("did", 1, 1, "put1", "ok"))

>>> [PURSE.states[0], PURSE.led(0, ("put1", "ok"), ("take1", "ok")), PURSE.led(0, ("take1", "ok")), PURSE.answers(1, "take1")]
[(('put1', 'ok', 1), ('take1', 'no', 0)), 0, None, ('ok',)]
>>> [PURSE.difference(SMALL), PURSE.reached(2), PURSE.alike(0, 1), PURSE.least == PURSE]
[(('put1', 'ok'), ('put1', 'full')), (0, 1, 2), False, True]
>>> SMALL.text
'0: put1 ok 1, take1 no 0\n1: put1 full 1, take1 ok 0'

>>> [LETTER.states[1], LINE.operations, len(LINE), LINE.led(0, ("puta", "ok"), ("putb", "ok")), LINE.led(0, ("putb", "ok"), ("puta", "ok"))]
[(('read', 'b', 1), ('seta', 'ok', 0), ('setb', 'ok', 1)), ('puta', 'putb', 'take'), 7, 4, 5]
'''


class Examples(unittest.TestCase):
    def test_examples(self):
        examples = doctest.DocTestParser().get_doctest(EXAMPLES, {}, "examples", None, 0)
        told = []
        result = doctest.DocTestRunner(verbose=False).run(examples, out=told.append)
        self.assertEqual(result.failed, 0, "".join(told))
        self.assertEqual(result.attempted, 8)
