import unittest

from holdgates.errors import NoFeed
from holdgates.feeds import bits, cut, inputs, is_endless, is_feed
from holdgates.webs import Web
from tests.helper import anything, equal_kinds, holds_list, lists_of, luck_of, made_feed, made_web, unchanged

MOST = 10 ** 12
ONE = Web([("a", "x-")])
THREE = Web([("a", "x"), ("b", "-x"), ("c", "x--")], [("wait", "b", "d", 1)])
FEED = ((5, -1, 5, 0), (7,), ())

# Things and which row of ONE's feed isn't so.
WRONG = [
    (None, -1), (True, -1), (0, -1), ("", -1), ("a", -1), ((), -1), ([], -1), ({}, -1), ({0: (1,)}, -1), (((), ()), -1),
    ([(), ()], -1), (((1,), None), -1), ((None,), 0), ((True,), 0), ((1,), 0), ("ab", -1), (("a",), 0), (([1],), 0), ([[1]], 0),
    (({},), 0), (((None,),), 0), (((True,),), 0), (((False, 1),), 0), (((1, "1"),), 0), ((((1,),),), 0), ((([],),), 0),
    (((MOST + 1,),), 0), (((-MOST - 1,),), 0), (((10 ** 60,),), 0), (((0,) * 2001,), 0), ([(1, True)], 0),
    ((((1,), (2,)),), 0), (({0: 1},), 0),
]
# Asks of a feed, all of which refuse what is none.
ASKS = [lambda web, feed: cut(web, feed, 3), lambda web, feed: bits(web, feed, 0), lambda web, feed: is_endless(web, feed, 3)]


def refused(ask, web, thing):
    try:
        ask(web, thing)
    except NoFeed as told:
        return told.inlet
    return None


class Feeds(unittest.TestCase):
    def test_feeds(self):
        for thing in [FEED, ((), (), ()), ((1,), (2,), (3,)), list(FEED), ((0,) * 2000, (MOST, -MOST), (0,))]:
            self.assertIs(is_feed(THREE, thing), True)
            for ask in ASKS:
                self.assertIsNone(refused(ask, THREE, thing))
        self.assertIs(is_feed(web=ONE, thing=((1,),)), True)
        self.assertIs(is_feed(ONE, [(1,)]), True)

    def test_no_feeds_of_anything(self):
        for thing, inlet in WRONG:
            self.assertIs(is_feed(ONE, thing), False, thing)
            for ask in ASKS:
                self.assertEqual(refused(ask, ONE, thing), inlet, thing)
        for thing in anything():
            good = isinstance(thing, (tuple, list)) and len(thing) == 1 and equal_kinds(thing[0], ())
            self.assertIs(is_feed(ONE, thing), good, thing)

    def test_the_first_row_that_is_wrong(self):
        for thing, inlet in [(((), (), None), 2), (((), [], None), 1), ((None, [], None), 0), (((), (None,), ()), 1),
                             (((), (), (1, True)), 2), ([(), (), (MOST + 1,)], 2), ((None, None), -1), ([None] * 4, -1),
                             ((), -1), (((), ()), -1), (((), (), (), ()), -1)]:
            self.assertIs(is_feed(THREE, thing), False)
            for ask in ASKS:
                self.assertEqual(refused(ask, THREE, thing), inlet)

    def test_edges_of_numbers_and_rows(self):
        for number in [MOST, -MOST, 0]:
            self.assertIs(is_feed(ONE, ((number,),)), True)
        for number in [MOST + 1, -MOST - 1]:
            self.assertIs(is_feed(ONE, ((0, number),)), False)
        for many in [0, 1, 1999, 2000]:
            self.assertIs(is_feed(ONE, ((3,) * many,)), True)
        self.assertIs(is_feed(ONE, ((3,) * 2001,)), False)


class Inputs(unittest.TestCase):
    def test_by_beats_then_inlets(self):
        self.assertTrue(equal_kinds(inputs(THREE, 0), []))
        self.assertTrue(equal_kinds(inputs(THREE, 1), [(0, 0), (2, 0)]))
        self.assertTrue(equal_kinds(inputs(web=THREE, beat=4), [
            (0, 0), (2, 0), (0, 1), (1, 0), (0, 2), (0, 3), (1, 1), (2, 1)]))
        self.assertEqual(inputs(ONE, 4), [(0, 0), (0, 1)])

    def test_up_to_600(self):
        told = inputs(THREE, 600)
        self.assertEqual(len(told), 600 + 300 + 200)
        self.assertEqual(told[-2:], [(0, 599), (1, 299)])

    def test_the_askers_own(self):
        inputs(ONE, 4).clear()
        self.assertEqual(inputs(ONE, 4), [(0, 0), (0, 1)])


class Cut(unittest.TestCase):
    def test_at_beats(self):
        feed = ((1, 2, 3, 4, 5, 6), (7, 8, 9), (10, 11))
        self.assertTrue(equal_kinds(cut(THREE, feed, 0), ((), (), ())))
        self.assertTrue(equal_kinds(cut(THREE, feed, 1), ((1,), (), (10,))))
        self.assertTrue(equal_kinds(cut(THREE, feed, 2), ((1, 2), (7,), (10,))))
        self.assertTrue(equal_kinds(cut(web=THREE, feed=feed, beat=5), ((1, 2, 3, 4, 5), (7, 8), (10, 11))))
        self.assertTrue(equal_kinds(cut(THREE, feed, 10 ** 60), feed))
        self.assertTrue(equal_kinds(cut(THREE, list(feed), 2), ((1, 2), (7,), (10,))))

    def test_rows_that_end_ahead(self):
        self.assertTrue(equal_kinds(cut(THREE, FEED, 3), ((5, -1, 5), (7,), ())))
        self.assertTrue(equal_kinds(cut(THREE, FEED, 600), FEED))

    def test_just_the_inputs_up_to_there(self):
        luck = luck_of(8)
        for _ in range(100):
            web = made_web(luck)
            feed = made_feed(luck, web, 20)
            beat = luck.randint(0, 25)
            went = inputs(web, beat)
            due = tuple(tuple(number for at, number in enumerate(row) if (inlet, at) in went)
                        for inlet, row in enumerate(feed))
            self.assertTrue(equal_kinds(unchanged(cut, web, feed, beat), due))

    def test_nothing_handed_in_is_changed(self):
        feed = [(1, 2), (3, 4), (5, 6)]
        told = cut(THREE, feed, 1)
        self.assertEqual(feed, [(1, 2), (3, 4), (5, 6)])
        self.assertFalse(holds_list(told, lists_of(feed)))


class Bits(unittest.TestCase):
    def test_one_from_the_number_on(self):
        feed = ((5, 4, 6, -5), (5,), ())
        self.assertTrue(equal_kinds(bits(THREE, feed, 5), ((1, 0, 1, 0), (1,), ())))
        self.assertTrue(equal_kinds(bits(web=THREE, feed=feed, least=-5), ((1, 1, 1, 1), (1,), ())))
        self.assertTrue(equal_kinds(bits(THREE, list(feed), 10 ** 60), ((0, 0, 0, 0), (0,), ())))
        self.assertTrue(equal_kinds(bits(THREE, feed, -10 ** 60), ((1, 1, 1, 1), (1,), ())))
        self.assertTrue(equal_kinds(bits(THREE, feed, 7), ((0, 0, 0, 0), (0,), ())))

    def test_all_rows_whole(self):
        self.assertTrue(equal_kinds(bits(ONE, (tuple(range(2000)),), 1999), ((0,) * 1999 + (1,),)))


class Endless(unittest.TestCase):
    def test_all_that_go_in(self):
        feed = ((1, 2, 3, 4), (5, 6), (7, 8))
        for beat in range(5):
            self.assertIs(is_endless(THREE, feed, beat), True)
        self.assertIs(is_endless(web=THREE, feed=feed, beat=5), False)
        self.assertIs(is_endless(THREE, feed, 10 ** 60), False)
        self.assertIs(is_endless(THREE, list(feed), 4), True)
        self.assertIs(is_endless(THREE, ((), (), ()), 0), True)
        self.assertIs(is_endless(THREE, ((), (), ()), 1), False)

    def test_each_row(self):
        self.assertIs(is_endless(THREE, ((1, 2, 3, 4), (5,), (7, 8)), 4), False)
        self.assertIs(is_endless(THREE, ((1, 2, 3, 4), (5,), (7, 8)), 3), True)
        self.assertIs(is_endless(THREE, ((1, 2, 3), (5, 6), (7, 8)), 4), False)
        self.assertIs(is_endless(THREE, ((1, 2, 3, 4), (5, 6), (7,)), 4), False)
        self.assertIs(is_endless(THREE, ((1, 2, 3), (5, 6), (7,)), 3), True)

    def test_rows_longer_than_what_goes_in(self):
        self.assertIs(is_endless(ONE, ((1, 2, 3),), 2), True)
        self.assertIs(is_endless(ONE, ((1,),), 2), True)
        self.assertIs(is_endless(ONE, ((1,),), 3), False)
