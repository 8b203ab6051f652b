import itertools
import unittest

from holdgates.smalls import choices, first_small, small_next
from holdgates.webs import Web
from tests.helper import LINE, Bits, equal_kinds, luck_of, made_web, unchanged


class Smalls(unittest.TestCase):
    def test_the_first_one(self):
        web = Web([("a", "x"), ("b", "x-")], [
            ("hold", "a", "c", 2, 1), ("wait", "b", "d", 1), ("cross", "c", "d", "e", "f"), ("lag", "e", "g", 2),
            ("deal", "g", "h", "i", "llr"), ("join", "h", "f", "j", 5)])
        self.assertTrue(equal_kinds(first_small(web=web), (0, ((), (), (), (None, None), (0,), ()))))
        self.assertTrue(equal_kinds(first_small(LINE), (0, ())))

    def test_choices(self):
        web = Web([("a", "x-"), ("b", "xx-"), ("c", "---x")])
        due = {0: 2, 1: 1, 2: 1, 3: 2, 4: 2, 5: 0, 6: 2, 7: 2, 8: 1, 9: 1, 10: 2, 11: 1}
        for rest, many in due.items():
            told = unchanged(choices, web, (rest, ()))
            self.assertTrue(equal_kinds(told, list(itertools.product((0, 1), repeat=many))))
        self.assertEqual(choices(web=Web([("a", "x"), ("b", "x"), ("c", "x")]), small=(0, ())), [
            (0, 0, 0), (0, 0, 1), (0, 1, 0), (0, 1, 1), (1, 0, 0), (1, 0, 1), (1, 1, 0), (1, 1, 1)])
        self.assertEqual(choices(Web([("a", "-x")]), (0, ())), [()])

    def test_a_beat(self):
        web = Web([("a", "x-"), ("b", "xx-")], [("cross", "a", "b", "c", "d"), ("hold", "d", "e", 1, 0)])
        told = small_next(web=web, small=(0, ((), ())), choice=(1, 0))
        self.assertTrue(equal_kinds(told, ((1, ((), (1,))), (1, 0, 0, 1, None))))
        told = small_next(web, (1, ((), (1,))), (0,))
        self.assertTrue(equal_kinds(told, ((2, ((), (1,))), (None, 0, None, 0, 0))))
        told = small_next(web, (5, ((), (1,))), ())
        self.assertTrue(equal_kinds(told, ((0, ((), (1,))), (None, None, None, None, None))))

    def test_a_join_that_keeps_too_much(self):
        web = Web([("a", "x"), ("b", "x")], [("join", "a", "b", "c", 1)])
        small = first_small(web)
        shown = []
        for number in range(40):
            small, carried = small_next(web, small, (1, 0))
            shown.append(carried)
        self.assertEqual(small, (0, ((1, 0) * 20,)))
        self.assertEqual(shown, [(1, 0, 1), (1, 0, 0)] * 20)
        self.assertEqual(len(choices(web, small)), 4)

    def test_by_hand(self):
        luck = luck_of(61)
        for _ in range(150):
            web = made_web(luck)
            bits, small = Bits([web]), first_small(web)
            for _ in range(30):
                nexts = bits.nexts()
                self.assertTrue(equal_kinds(choices(web, small), [choice for choice, _ in nexts]))
                choice, bits = luck.choice(nexts)
                small, carried = unchanged(small_next, web, small, choice)
                self.assertTrue(equal_kinds((small, carried), (bits.stand()[:2], bits.seen[-1][0])))

    def test_ones_and_noughts_alone(self):
        web = Web([("a", "xx")], [("wait", "a", "b", 1)])
        self.assertEqual(web.common(), 2)
        small, _ = small_next(web, first_small(web), (1,))
        self.assertEqual(small, (1, ((1,),)))
        small, carried = small_next(web, small, (0,))
        self.assertTrue(equal_kinds((small, carried), ((0, ((0,),)), (0, 1))))
