import unittest

from holdgates.courses import Course
from holdgates.errors import Jams, NoFeed, NoLane, TooLong
from holdgates.feeds import bits
from holdgates.runs import row_of, run
from holdgates.webs import Web
from tests.helper import (anything, equal_kinds, hand_run, luck_of, made_course, made_feed, made_web, unchanged)
from tests.test_feeds import WRONG

MOST = 10 ** 12


def lane_of(gates, feed, beats, lane, inlets=(("a", "x"), ("b", "x")), lifts=()):
    """What a lane carries beat by beat, None for nothing."""
    web = Web(inlets, gates)
    return [row[web.lanes().index(lane)] for row in run(Course(web, lifts=lifts), feed, beats)]


def jam_of(course, feed, beats):
    try:
        return run(course, feed, beats), None
    except Jams as told:
        return None, told.beat


class Gates(unittest.TestCase):
    """Each gate, as the document tells it, in numbers written down by hand."""

    def alone(self, gate, row, lifts=(), beats=None):
        return lane_of([gate], (row,), beats or len(row), gate[2], [("a", "x")], lifts)

    def test_inlets_take_by_their_rhythms(self):
        web = Web([("a", "x-x"), ("b", "-x")])
        self.assertEqual(run(Course(web), ((1, 2, 3), (8, 9)), 6), [
            (1, None), (None, 8), (2, None), (3, 9), (None, None), (None, None)])

    def test_hold_lets_the_one_of_its_rank_go(self):
        row = (5, 3, 9, 1, 7, 7)
        self.assertEqual(self.alone(("hold", "a", "c", 2, 0), row), [None, None, 3, 1, 5, 7])
        self.assertEqual(self.alone(("hold", "a", "c", 2, 1), row), [None, None, 5, 3, 7, 7])
        self.assertEqual(self.alone(("hold", "a", "c", 2, 2), row), [None, None, 9, 5, 7, 7])
        self.assertEqual(self.alone(("hold", "a", "c", 0, 0), row), list(row))
        self.assertEqual(self.alone(("hold", "a", "c", 12, 3), row), [None] * 6)

    def test_hold_without_what_comes_lets_nothing_go(self):
        self.assertEqual(lane_of([("hold", "a", "c", 1, 0)], ((4, 2),), 5, "c", [("a", "x-")]),
                         [None, None, 2, None, None])

    def test_wait_lets_the_eldest_go(self):
        row = (5, 3, 9, 1, 7)
        self.assertEqual(self.alone(("wait", "a", "c", 2), row), [None, None, 5, 3, 9])
        self.assertEqual(self.alone(("wait", "a", "c", 0), row), list(row))
        self.assertEqual(lane_of([("wait", "a", "c", 1)], ((4, 2),), 5, "c", [("a", "x-")]),
                         [None, None, 4, None, None])

    def test_lag_by_beats(self):
        self.assertEqual(lane_of([("lag", "a", "c", 3)], ((4, 2, 7),), 8, "c", [("a", "x-")]),
                         [None, None, None, 4, None, 2, None, 7])
        self.assertEqual(self.alone(("lag", "a", "c", 1), (1, 2, 3)), [None, 1, 2])
        self.assertEqual(self.alone(("lag", "a", "c", 12), (6,), beats=14), [None] * 12 + [6, None])

    def test_deal_by_turns_of_what_comes(self):
        gate, inlets = ("deal", "a", "c", "d", "llr"), [("a", "xx-")]
        feed = (tuple(range(1, 9)),)
        self.assertEqual(lane_of([gate], feed, 12, "c", inlets), [1, 2, None, None, 4, None, 5, None, None, 7, 8, None])
        self.assertEqual(lane_of([gate], feed, 12, "d", inlets), [None, None, None, 3, None, None, None, 6, None, None, None, None])
        self.assertEqual(lane_of([("deal", "a", "c", "d", "r")], feed, 3, "d", inlets), [1, 2, None])
        self.assertEqual(lane_of([("deal", "a", "c", "d", "r")], feed, 3, "c", inlets), [None] * 3)

    def test_join_lets_the_eldest_go(self):
        inlets = [("a", "x---"), ("b", "x---")]
        self.assertEqual(lane_of([("join", "a", "b", "c", 1)], ((5, 6), (1, 2)), 8, "c", inlets),
                         [5, 1, None, None, 6, 2, None, None])
        self.assertEqual(lane_of([("join", "b", "a", "c", 1)], ((5, 6), (1, 2)), 8, "c", inlets),
                         [1, 5, None, None, 2, 6, None, None])
        self.assertEqual(lane_of([("join", "a", "b", "c", 0)], ((5, 6), ()), 6, "c", inlets),
                         [5, None, None, None, 6, None])
        self.assertEqual(lane_of([("join", "a", "b", "c", 3)], ((1, 2, 3, 4, 5, 6), (11, 12)), 8, "c",
                                 [("a", "x"), ("b", "-x--")]), [1, 2, 11, 3, 4, 5, 6, 12])

    def test_join_jams_where_it_keeps_more(self):
        for c in range(13):
            course = Course(Web([("a", "x"), ("b", "x")], [("join", "a", "b", "c", c)]))
            feed = (tuple(range(20)), tuple(range(100, 120)))
            self.assertEqual(len(run(course, feed, c)), c)
            self.assertEqual(jam_of(course, feed, c + 1), (None, c + 1))
            self.assertEqual(jam_of(course, feed, 20), (None, c + 1))

    def test_a_feed_that_ends_jams_elsewhere_or_never(self):
        course = Course(Web([("a", "x"), ("b", "x")], [("join", "a", "b", "c", 2)]))
        self.assertEqual(jam_of(course, ((1,) * 9, (2,) * 9), 9), (None, 3))
        self.assertEqual(jam_of(course, ((1,) * 9, (2,) * 2), 9)[1], None)
        self.assertEqual([row[2] for row in run(course, ((1,) * 3, (2, 2)), 6)], [1, 2, 1, 2, 1, None])
        later = Course(Web([("a", "x"), ("b", "x-")], [("deal", "b", "d", "e", "lr"), ("join", "a", "d", "c", 0)]))
        self.assertEqual(jam_of(later, ((1,) * 9, (2,) * 9), 9), (None, 1))
        # Here nothing comes by one lane at first, so that the other passes.
        self.assertEqual(jam_of(later, ((), (2,) * 9), 9)[1], None)
        third = Course(Web([("a", "x"), ("b", "x"), ("d", "x")], [("wait", "d", "e", 3), ("join", "a", "b", "c", 3)]))
        self.assertEqual(jam_of(third, ((1,) * 3, (1,) * 9, ()), 9)[1], None)
        self.assertEqual(jam_of(third, ((1,) * 9, (1,) * 9, ()), 9)[1], 4)

    def test_jams_at_the_first_of_two_joins(self):
        web = Web([("a", "x"), ("b", "-x"), ("d", "x")], [("join", "a", "b", "c", 0), ("join", "c", "d", "e", 4)])
        self.assertEqual(jam_of(Course(web), ((1,) * 9, (2,) * 9, (3,) * 9), 9), (None, 2))
        web = Web([("a", "x"), ("b", "-x"), ("d", "x")], [("join", "a", "b", "c", 9), ("join", "c", "d", "e", 3)])
        self.assertEqual(jam_of(Course(web), ((1,) * 9, (2,) * 9, (3,) * 9), 9), (None, 4))

    def test_cross_by_size(self):
        gate, inlets = ("cross", "a", "b", "c", "d"), [("a", "xx-"), ("b", "x-x")]
        feed = ((5, 1, 4, 9), (3, 2, 8))
        self.assertEqual(lane_of([gate], feed, 5, "c", inlets), [3, 1, None, 4, 9])
        self.assertEqual(lane_of([gate], feed, 5, "d", inlets), [5, None, 2, 8, None])
        self.assertEqual(lane_of([gate], ((7,), (7,)), 1, "c", inlets), [7])
        self.assertEqual(lane_of([gate], ((2,), (7,)), 1, "d", inlets), [7])

    def test_lifted_hold_and_wait_let_what_comes_straight_on(self):
        row = (5, 3, 9, 1, 7, 2, 8)
        lifts = [(3, 0, "up"), (5, 0, "down")]
        self.assertEqual(self.alone(("hold", "a", "c", 2, 0), row, lifts), [None, None, 3, 1, 7, 2, 5])
        self.assertEqual(self.alone(("wait", "a", "c", 2), row, lifts), [None, None, 5, 1, 7, 3, 9])
        lifts = [(1, 0, "up"), (3, 0, "down")]
        self.assertEqual(self.alone(("hold", "a", "c", 2, 2), row, lifts), [None, 3, 9, None, 7, 5, 8])
        self.assertEqual(self.alone(("wait", "a", "c", 2), row, lifts), [None, 3, 9, None, 5, 1, 7])
        lifts = [(0, 0, "up")]
        self.assertEqual(self.alone(("wait", "a", "c", 2), row, lifts), list(row))

    def test_lifted_cross_lets_ones_to_less(self):
        gate, feed = ("cross", "a", "b", "c", "d"), ((5, 5, 1, 5), (3, 3, 2, 3))
        lifts = [(1, 0, "up"), (3, 0, "down")]
        self.assertEqual(lane_of([gate], feed, 4, "c", lifts=lifts), [3, 5, 1, 3])
        self.assertEqual(lane_of([gate], feed, 4, "d", lifts=lifts), [5, 3, 2, 5])
        self.assertEqual(lane_of([gate], ((), (3, 2)), 2, "d", lifts=lifts), [3, 2])
        self.assertEqual(lane_of([gate], ((5, 4), ()), 2, "c", lifts=lifts), [5, 4])

    def test_gates_in_order_in_one_beat(self):
        gates = [("wait", "a", "c", 1), ("cross", "c", "b", "d", "e"), ("join", "d", "e", "f", 4)]
        self.assertEqual(run(Course(Web([("a", "x"), ("b", "x")], gates)), ((5, 6, 7), (1, 9, 2)), 3), [
            (5, 1, None, None, 1, 1), (6, 9, 5, 5, 9, 5), (7, 2, 6, 2, 6, 9)])


class Runs(unittest.TestCase):
    def test_no_beats_and_as_many_as_may_be(self):
        course = Course(Web([("a", "x"), ("b", "-x")]))
        feed = (tuple(range(600)), tuple(range(300)))
        self.assertTrue(equal_kinds(run(course, feed, 0), []))
        told = run(course=course, feed=feed, beats=600)
        self.assertEqual(len(told), 600)
        self.assertTrue(equal_kinds(told[0], (0, None)))
        self.assertTrue(equal_kinds(told[599], (599, 299)))
        self.assertTrue(equal_kinds(run(course, list(feed), 2), [(0, None), (1, 0)]))

    def test_too_long(self):
        course = Course(Web([("a", "x")]))
        for beats in [601, 10 ** 6]:
            with self.assertRaises(TooLong) as caught:
                run(course, ((),), beats)
            self.assertTrue(equal_kinds(caught.exception.most, 600))
            with self.assertRaises(TooLong):
                row_of(course, ((),), beats, "a")

    def test_numbers_of_all_sizes(self):
        course = Course(Web([("a", "x")], [("hold", "a", "b", 1, 0)]))
        self.assertEqual(row_of(course, ((MOST, -MOST, 0, MOST),), 4, "b"), [-MOST, 0, MOST])

    def test_rows(self):
        course = Course(Web([("a", "x-"), ("b", "x")], [("hold", "b", "c", 2, 0)]))
        feed = ((1, 2, 3), (9, 8, 7, 6, 5))
        self.assertTrue(equal_kinds(row_of(course, feed, 9, "a"), [1, 2, 3]))
        self.assertTrue(equal_kinds(row_of(course=course, feed=feed, beats=4, lane="c"), [7, 6]))
        self.assertTrue(equal_kinds(row_of(course, feed, 0, "c"), []))
        self.assertTrue(equal_kinds(row_of(course, feed, 2, "c"), []))

    def test_zero_is_a_number(self):
        course = Course(Web([("a", "x")], [("wait", "a", "b", 1)]))
        self.assertEqual(row_of(course, ((0, 0, 0),), 4, "b"), [0, 0])

    def test_runs_by_hand(self):
        luck, jammed = luck_of(1), 0
        for _ in range(1500):
            web = made_web(luck)
            beats = luck.randint(0, 40)
            course = made_course(luck, web, list(range(40)), luck.choice([0, 3, 12]))
            feed = made_feed(luck, web, beats)
            rows, beat = hand_run(course, feed, beats)
            told, at = jam_of(course, feed, beats)
            self.assertEqual(at, beat)
            if beat is None:
                self.assertTrue(equal_kinds(told, rows))
                for place, lane in enumerate(web.lanes()):
                    due = [row[place] for row in rows if row[place] is not None]
                    self.assertTrue(equal_kinds(row_of(course, feed, beats, lane), due))
            else:
                jammed += 1
        self.assertTrue(100 < jammed < 1400)

    def test_the_askers_own(self):
        course = Course(Web([("a", "x")]))
        feed = [(1, 2, 3)]
        told = unchanged(run, course, feed, 3)
        told.clear()
        row_of(course, feed, 3, "a").append(5)
        self.assertEqual(run(course, feed, 3), [(1,), (2,), (3,)])
        self.assertEqual(row_of(course, feed, 3, "a"), [1, 2, 3])


class Refused(unittest.TestCase):
    def setUp(self):
        self.course = Course(Web([("a", "x")], [("deal", "a", "b", "c", "lr"), ("lag", "b", "d", 1), ("join", "c", "d", "e", 0)]))
        # It jams at beat 2.
        self.feed = ((1, 2, 3),)

    def test_of_anything(self):
        for thing, inlet in WRONG:
            for ask in [lambda: run(self.course, thing, 3), lambda: run(self.course, thing, 601),
                        lambda: row_of(self.course, thing, 3, "a")]:
                with self.assertRaises(NoFeed) as caught:
                    ask()
                self.assertTrue(equal_kinds(caught.exception.inlet, inlet))
        for thing in anything():
            if isinstance(thing, str) and thing == "a":
                continue
            with self.assertRaises(NoLane) as caught:
                row_of(self.course, None, 601, thing)
            self.assertTrue(equal_kinds(caught.exception.lane, thing))

    def test_the_one_told_first(self):
        with self.assertRaises(NoLane):
            row_of(self.course, ((None,),), 601, "z")
        with self.assertRaises(NoFeed):
            row_of(self.course, ((None,),), 601, "a")
        with self.assertRaises(TooLong):
            row_of(self.course, self.feed, 601, "a")
        with self.assertRaises(TooLong):
            run(self.course, self.feed, 601)
        for beats in [2, 3, 600]:
            with self.assertRaises(Jams) as caught:
                run(self.course, self.feed, beats)
            self.assertEqual(caught.exception.beat, 2)
            with self.assertRaises(Jams):
                row_of(self.course, self.feed, beats, "a")
        self.assertEqual(len(run(self.course, self.feed, 1)), 1)


class Promise(unittest.TestCase):
    def test_bits_of_what_is_fed_are_bits_of_what_is_carried(self):
        luck, seen = luck_of(2), 0
        for _ in range(400):
            web = made_web(luck)
            beats = luck.randint(1, 30)
            course = made_course(luck, web, list(range(30)))
            feed = made_feed(luck, web, beats)
            told, beat = jam_of(course, feed, beats)
            numbers = sorted({number for row in feed for number in row})
            for least in [luck.choice(numbers or [0]), luck.choice(numbers or [0]) + 1, MOST + 1, -MOST - 1]:
                shown, at = jam_of(course, bits(web, feed, least), beats)
                self.assertEqual(at, beat)
                if told is not None:
                    seen += 1
                    due = [tuple(None if number is None else int(number >= least) for number in row) for row in told]
                    self.assertTrue(equal_kinds(shown, due))
        self.assertTrue(seen > 200)
