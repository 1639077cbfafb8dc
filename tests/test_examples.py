"""The examples of the document's interface, word for word, and those of README.md."""

import doctest
import pathlib
import unittest

EXAMPLES = r'''
>>> from mustwait.builders import account, cell, queue, switch
>>> PURSE, SMALL, LETTER, LINE = account(2, 1), account(1, 1), cell("a", "b"), queue(2, "a", "b")
>>> SHOP = (LETTER, PURSE)
>>> DAY = (("begin",), ("begin",), ("did", 0, 0, "setb", "ok"), ("did", 1, 0, "read", "a"), ("did", 1, 1, "put1", "ok"))

>>> [PURSE.states[0], PURSE.led(0, ("put1", "ok"), ("take1", "ok")), PURSE.led(0, ("take1", "ok")), PURSE.answers(1, "take1")]
[(('put1', 'ok', 1), ('take1', 'no', 0)), 0, None, ('ok',)]
>>> [PURSE.difference(SMALL), PURSE.reached(2), PURSE.alike(0, 1), PURSE.least == PURSE]
[(('put1', 'ok'), ('put1', 'full')), (0, 1, 2), False, True]
>>> SMALL.text
'0: put1 ok 1, take1 no 0\n1: put1 full 1, take1 ok 0'

>>> [LETTER.states[1], LINE.operations, len(LINE), LINE.led(0, ("puta", "ok"), ("putb", "ok")), LINE.led(0, ("putb", "ok"), ("puta", "ok"))]
[(('read', 'b', 1), ('seta', 'ok', 0), ('setb', 'ok', 1)), ('puta', 'putb', 'take'), 7, 4, 5]

>>> from mustwait.histories import log_of
>>> LOG = log_of(SHOP, DAY)
>>> LOG
(((0, 0),), ((0, False, (), ((0, 'setb', 'ok'),)), (1, False, (), ((0, 'read', 'a'), (1, 'put1', 'ok')))))

>>> from mustwait.orders import orders, unsound_at
>>> [list(orders(SHOP, LOG, (0, 1))), unsound_at(SHOP, DAY), unsound_at(SHOP, DAY + (("did", 0, 1, "take1", "no"),))]
[[((0, 0), (1, 0))], None, (5, (0, 1))]

>>> from mustwait.wishes import good_sets, releases, status
>>> WISH = (0, 1, "take1")
>>> [good_sets(SHOP, LOG, WISH, "no"), good_sets(SHOP, LOG, WISH, "ok"), releases(SHOP, LOG, WISH), status(SHOP, LOG, WISH)]
[((),), ((1,),), (('no', (), (1,)), ('ok', (1,), ())), 'waits']
>>> PAIR = (switch(), switch())
>>> CROSS = (("begin",), ("begin",), ("did", 0, 0, "look", "off"), ("did", 1, 1, "look", "off"), ("did", 0, 1, "turn", "ok"))
>>> [status(PAIR, log_of(PAIR, CROSS), (1, 0, "turn")), status(PAIR, log_of(PAIR, CROSS + (("commit", 0),)), (1, 0, "turn"))]
['waits', 'never']

>>> from mustwait.stories import folded, settled
>>> PUTS = (("begin",), ("begin",), ("did", 0, 0, "puta", "ok"), ("did", 1, 0, "putb", "ok"), ("commit", 0))
>>> [settled((LINE,), log_of((LINE,), PUTS)), folded((LINE,), log_of((LINE,), PUTS + (("commit", 1),)))]
[(), (((4,), (5,)), ())]

>>> from mustwait.certificates import decide, decision_holds
>>> FOUND = decide(SHOP, LOG, WISH)
>>> [FOUND[0], [block[:2] for block in FOUND[1]], decision_holds(SHOP, LOG, WISH, FOUND), decision_holds(SHOP, LOG, WISH, ("given", "no", ()))]
['waits', [('no', (1,)), ('ok', ())], True, False]

>>> from mustwait.stores import Store
>>> store = Store(LINE)
>>> [store.begin(), store.begin(), store.ask(0, 0, "puta"), store.ask(1, 0, "putb"), store.commit(0), store.commit(1), store.log]
[0, 1, 'ok', 'ok', None, None, (((4,), (5,)), ())]
>>> [store.begin(), store.ask(2, 0, "take"), store.ask(2, 0, "take"), store.commit(2), store.begin(), store.ask(3, 0, "take")]
[2, 'a', 'b', None, 3, None]
>>> shop = Store(LETTER, PURSE)
>>> [shop.begin(), shop.begin(), shop.ask(0, 0, "setb"), shop.ask(1, 0, "read"), shop.ask(1, 1, "put1"), shop.ask(0, 1, "take1"), shop.waiting]
[0, 1, 'ok', 'a', 'ok', None, (0,)]
>>> [shop.commit(1), shop.news, shop.log[1]]
[None, ((0, 'ok'),), ((0, False, (), ((0, 'setb', 'ok'), (1, 'take1', 'ok'))),)]

>>> from mustwait.alone import Alone, reaches
>>> from mustwait.joint import joint
>>> BOTH = (("did", 0, "puta", "ok"), ("did", 1, "putb", "ok"))
>>> [reaches(LINE, BOTH, (0, 1)), joint(LINE, (4, 5)), joint(LINE, (4,))[0]]
[(4, 5), ('split', (((4, 5), 'take'),)), 'joint']
>>> line, purse = Alone(LINE), Alone(PURSE)
>>> [line.ask(0, "puta"), line.ask(1, "putb"), line.commit(0), line.ask(1, "putb")]
['ok', None, None, 'ok']
>>> [purse.ask(0, "put1"), purse.ask(1, "put1"), purse.commit(0), purse.commit(1), purse.ask(2, "take1"), purse.ask(3, "take1")]
['ok', 'ok', None, None, 'ok', 'ok']

>>> from mustwait.runs import failing_run, run_order, sort_of
>>> from mustwait.tables import aside, in_place, safe_sets
>>> FULL, PUT, NO, TAKE = SMALL.events
>>> in_place(SMALL) == ((FULL, PUT), (PUT, NO), (PUT, TAKE), (NO, TAKE), (TAKE, FULL), (TAKE, PUT))
True
>>> aside(SMALL) == ((FULL, TAKE), (PUT, PUT), (PUT, NO), (NO, PUT), (TAKE, FULL), (TAKE, TAKE))
True
>>> [sort_of(SMALL, "in place", FULL, PUT), sort_of(SMALL, "in place", PUT, NO), sort_of(SMALL, "aside", PUT, PUT), safe_sets(SMALL, PUT) == ((FULL, TAKE),)]
['abort', 'ring', 'commit', True]
>>> [len(failing_run(SMALL, "aside", PUT, PUT)), run_order((SMALL,), failing_run(SMALL, "in place", FULL, PUT))]
[4, None]

>>> from mustwait.controls import CONTROLS, held_back
>>> from mustwait.counts import weavings
>>> WRITES = (("begin",), ("begin",), ("did", 0, 0, "seta", "ok"), ("did", 1, 0, "setb", "ok"))
>>> [held_back(control, (LETTER,), WRITES) for control in CONTROLS]
[3, 3, None, 3, None]
>>> [weavings((LINE,), (((0, "puta"),), ((0, "putb"),)), control) for control in ("cube", "orders")]
[(6, 2), (6, 6)]

>>> from mustwait.console import Console
>>> console = Console()
>>> [console.say(line) for line in ("object cell a b", "object account 2 1", "begin", "begin", "ask 0 0 setb", "ask 1 0 read", "ask 1 1 put1", "ask 0 1 take1", "why 0", "commit 1")]
['0', '1', '0', '1', 'ok', 'a', 'ok', 'waits', 'no if 1 aborts; ok if 1 commits', 'ok; 0 ok']
'''


README = pathlib.Path(__file__).resolve().parent.parent / "README.md"


class Examples(unittest.TestCase):
    def run_examples(self, text):
        examples = doctest.DocTestParser().get_doctest(text, {}, "examples", None, 0)
        told = []
        result = doctest.DocTestRunner(verbose=False).run(examples, out=told.append)
        self.assertEqual(result.failed, 0, "".join(told))
        return result.attempted

    def test_examples(self):
        self.assertEqual(self.run_examples(EXAMPLES), 54)

    def test_readme(self):
        self.assertGreater(self.run_examples(README.read_text(encoding="utf-8").replace("```", "")), 20)
