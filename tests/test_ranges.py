import itertools
import unittest

from holdgates.bounds import LONGEST
from holdgates.courses import Course
from holdgates.errors import Jams, NoBeat, NoBounds, NoLane, NoRounds, TooLong
from holdgates.far import far_carried
from holdgates.feeds import times_by
from holdgates.ranges import far_range, ranges, reached, stays
from holdgates.runs import run
from holdgates.webs import Web
from tests.helper import (anything, due, equal_kinds, hand_run, luck_of, made_course, made_web, shown_by, unchanged)

FAR = 10 ** 12
LINE = Course(Web([("a", "x")]))
TWO = Course(Web([("a", "x"), ("b", "x-")], [("hold", "a", "c", 1, 0), ("cross", "b", "c", "d", "e")]))
# Jams at beat 3 of a feed without end.
JAMS = Course(Web([("a", "x"), ("b", "x")], [("join", "a", "b", "c", 2)]))
# What makes an inlet's bounds none.
WRONG_ROWS = [None, 0, "a", [], [(1, 2)], ((1, 2, 3),), ((1,),), ((),), ([1, 2],), ((2, 1),), ((1, 2), (3, 2)),
              ((True, 2),), ((0, True),), ((0, FAR + 1),), ((-FAR - 1, 0),), ((None, 2),), (("a", "b"),),
              ((1, 2), None), (1, 2), ((1.0, 2.0),)]


def made_bounds(luck, web, beats, wide=2, late=2):
    """Bounds by luck, which may end ahead of the beats, and how many feeds lie within them."""
    rows, many = [], 1
    for times in times_by(web, beats):
        row = []
        for _ in range(luck.choice([times, times, max(0, times - luck.randint(0, late)), times + 1])):
            low = luck.randint(-1, 3)
            high = low + luck.choice([0, 0, luck.randint(0, wide)])
            many *= high - low + 1
            row.append((low, high))
        rows.append(tuple(row))
    return tuple(rows), many


def all_feeds(bounds):
    """All feeds within bounds."""
    rows = [list(itertools.product(*[range(low, high + 1) for low, high in row])) for row in bounds]
    return list(itertools.product(*rows))


def lies_within(bounds, feed):
    """Whether a feed has just so many numbers, each within its own."""
    if type(feed) is not tuple or [len(row) for row in feed] != [len(row) for row in bounds]:
        return False
    return all(type(row) is tuple and type(number) is int and low <= number <= high
               for row, bound in zip(feed, bounds) for number, (low, high) in zip(row, bound))


class Ranges(unittest.TestCase):
    def test_a_line(self):
        bounds = (((1, 5), (3, 3), (-FAR, FAR)), ((2, 4),))
        found = [((1, 5), (2, 4), None, (2, 4), None), ((3, 3), None, (1, 3), None, (1, 3)),
                 ((-FAR, FAR), None, (-FAR, 5), None, (-FAR, 5)), (None,) * 5]
        self.assertTrue(equal_kinds(unchanged(ranges, TWO, bounds, 4), found))
        self.assertTrue(equal_kinds(ranges(beats=4, bounds=list(bounds), course=TWO), found))
        self.assertEqual(ranges(TWO, ((), ()), 2), [(None,) * 5] * 2)
        self.assertEqual(ranges(TWO, bounds, 0), [])

    def test_all_feeds_within_small_bounds(self):
        luck, many, ended = luck_of(231), 0, 0
        for _ in range(400):
            course = made_course(luck, made_web(luck, luck.randint(0, 6), most=5), [0, 1, 2, 4], most=3)
            beats = luck.randint(1, 6)
            bounds, size = made_bounds(luck, course.web(), beats)
            if not 2 <= size <= 250 or hand_run(course, [tuple(low for low, _ in row) for row in bounds], beats)[1]:
                continue
            many += 1
            runs = [hand_run(course, feed, beats)[0] for feed in all_feeds(bounds)]
            told = unchanged(ranges, course, bounds, beats)
            self.assertEqual(len(told), beats)
            for beat, row in enumerate(told):
                for place, found in enumerate(row):
                    tokens = [rows[beat][place] for rows in runs]
                    ended += None in tokens and beats > 2
                    due_here = None if None in tokens else (min(tokens), max(tokens))
                    self.assertTrue(equal_kinds(found, due_here))
                    if found is not None:
                        # All numbers between come.
                        self.assertEqual(sorted(set(tokens)), list(range(found[0], found[1] + 1)))
        self.assertTrue(many > 100 and ended > 100, (many, ended))

    def test_600_beats_and_601(self):
        bounds = (((1, 2),) * 200,)
        told = ranges(LINE, bounds, 600)
        self.assertEqual(told, [((1, 2),)] * 200 + [(None,)] * 400)
        self.assertEqual(due(ranges, LINE, bounds, 601), (TooLong, LONGEST))

    def test_two_hundred_pairs_and_one_more(self):
        for many in [0, 1, 199, 200]:
            self.assertIsNone(due(ranges, LINE, (((1, 2),) * many,), 3))
        self.assertEqual(due(ranges, LINE, (((1, 2),) * 201,), 3), (NoBounds, 0))
        self.assertEqual(due(ranges, TWO, (((1, 2),) * 200, ((1, 2),) * 201), 3), (NoBounds, 1))


class Reached(unittest.TestCase):
    def test_a_feed_for_each_number_between(self):
        luck, many = luck_of(232), {"feed": 0, "none": 0, "inner": 0}
        for _ in range(150):
            course = made_course(luck, made_web(luck, luck.randint(0, 6), most=5), [0, 1, 2, 4], most=3)
            beats = luck.randint(1, 12)
            bounds, _ = made_bounds(luck, course.web(), beats, wide=9)
            if due(ranges, course, bounds, beats):
                continue
            row = ranges(course, bounds, beats)[-1]
            for lane, found in zip(course.web().lanes(), row):
                low, high = found or (0, 2)
                for number in {low - 1, low, low + 1, (low + high) // 2, high, high + 1, 10 ** 70, -10 ** 70}:
                    feed = unchanged(reached, course, bounds, beats, lane, number)
                    if found is None or not low <= number <= high:
                        self.assertIsNone(feed)
                        many["none"] += 1
                        continue
                    self.assertTrue(lies_within(bounds, feed))
                    self.assertEqual(shown_by(course, feed, beats, lane), number)
                    many["feed"] += 1
                    many["inner"] += low < number < high
        self.assertTrue(min(many.values()) > 60, many)

    def test_arguments(self):
        bounds = [((1, 5), (3, 3))]
        self.assertTrue(equal_kinds(reached(number=4, lane="a", beat=1, bounds=bounds, course=LINE), ((4, 3),)))
        self.assertIsNone(reached(LINE, bounds, 3, "a", 4))
        self.assertIsNone(reached(LINE, bounds, 2, "a", 4))
        self.assertTrue(equal_kinds(reached(LINE, bounds, 600, "a", 4), None))
        self.assertTrue(equal_kinds(reached(LINE, (((-FAR, FAR),),), 1, "a", -FAR), ((-FAR,),)))
        self.assertIsNone(reached(LINE, (((-FAR, FAR),),), 1, "a", FAR + 1))


class Stays(unittest.TestCase):
    def test_the_first_beat_at_which_it_may_not(self):
        luck, many = luck_of(233), {"stays": 0, "less": 0, "more": 0}
        for _ in range(500):
            course = made_course(luck, made_web(luck, luck.randint(0, 6), most=5), [0, 1, 2, 4], most=3)
            beats = luck.randint(1, 12)
            bounds, _ = made_bounds(luck, course.web(), beats)
            if due(ranges, course, bounds, beats):
                continue
            lane, low, high = luck.choice(course.web().lanes()), luck.randint(-2, 2), luck.randint(0, 5)
            told, first = unchanged(stays, course, bounds, beats, lane, low, high), None
            for beat, row in enumerate(ranges(course, bounds, beats)):
                span = row[course.web().lanes().index(lane)]
                if first is None and span is not None and (span[0] < low or span[1] > high):
                    first = beat + 1
            if first is None:
                self.assertIsNone(told)
                many["stays"] += 1
                continue
            self.assertTrue(type(told) is tuple and len(told) == 2)
            self.assertTrue(equal_kinds(told[0], first))
            self.assertTrue(lies_within(bounds, told[1]))
            number = shown_by(course, told[1], first, lane)
            self.assertFalse(low <= number <= high)
            many["less" if number < low else "more"] += 1
        self.assertTrue(min(many.values()) > 20, many)

    def test_at_the_edges(self):
        bounds = (((1, 5), (0, 3), (2, 6)),)
        for low, high, beat in [
                (0, 6, None), (0, 5, 3), (1, 6, 2), (1, 5, 2), (2, 6, 1), (0, 4, 1), (7, -7, 1), (0, 10 ** 70, None),
                (-10 ** 70, 5, 3)]:
            told = stays(course=LINE, bounds=bounds, beats=3, lane="a", low=low, high=high)
            self.assertEqual(told and told[0], beat)
        self.assertIsNone(stays(LINE, bounds, 2, "a", 0, 5))
        self.assertIsNone(stays(LINE, bounds, 0, "a", 9, -9))
        self.assertIsNone(stays(LINE, ((),), 600, "a", 9, -9))


class FarRange(unittest.TestCase):
    def test_against_ranges_of_bounds_laid_out(self):
        luck, many = luck_of(234), 0
        for _ in range(150):
            course = made_course(luck, made_web(luck, most=6), [0, 1, 7, 30], most=3)
            rounds, bounds = [], []
            for times in times_by(course.web(), 60):
                lows = [luck.choices(range(-9, 9), k=luck.randint(least, 3)) for least in (0, 1)]
                row, again = [tuple((low, low + luck.choice([0, 4])) for low in part) for part in lows]
                rounds.append((row, again))
                bounds.append((row + again * 60)[:times])
            if due(ranges, course, bounds, 60):
                continue
            many += 1
            rows = ranges(course, bounds, 60)
            for beat in luck.sample(range(1, 61), 6) + [1, 60]:
                self.assertTrue(equal_kinds(unchanged(far_range, course, tuple(rounds), beat), rows[beat - 1]))
                self.assertEqual(far_range(course=course, rounds=rounds, beat=beat), rows[beat - 1])
        self.assertTrue(many > 60, many)

    def test_far_beats(self):
        rounds = (((), ((1, 4), (2, 9), (3, 3))), (((0, 0),), ((5, 6),)))
        low, high = [tuple(tuple(tuple(pair[side] for pair in row) for row in turn) for turn in rounds) for side in (0, 1)]
        for beat in [1, 2, 10 ** 6, 10 ** 60 - 1, 10 ** 60]:
            told = far_range(TWO, rounds, beat)
            pairs = zip(far_carried(TWO, low, beat), far_carried(TWO, high, beat))
            self.assertTrue(equal_kinds(told, tuple(None if one is None else (one, other) for one, other in pairs)))

    def test_no_rounds_of_anything(self):
        for thing in anything() + [(((), ()),), (((), ((1, 2),), ()),), (((), [(1, 2)]),), [[(), ((1, 2),)]], (((), ((2, 1),)),),
                                   (((), ((1, FAR + 1),)),), ((((1, 2),) * 13, ((1, 2),)),), (((), ((1, 2),) * 13),)]:
            if equal_kinds(thing, ((), ())):
                continue
            number = 0 if isinstance(thing, (list, tuple)) and len(thing) == 1 else -1
            self.assertTrue(equal_kinds(due(far_range, LINE, thing, 1), (NoRounds, number)), thing)
        good = ((), ((1, 2),))
        for thing, number in [((good, None), 1), ((None, None), 0), ((good,), -1), ((good, good, good), -1),
                              ([good, ((), ())], 1), ((good, ((None,), ((1, 2),))), 1)]:
            self.assertEqual(due(far_range, TWO, thing, 1), (NoRounds, number))
        for thing in [[good, good], ((((1, 2),) * 12, ((FAR, FAR),) * 12), good)]:
            self.assertIsNone(due(far_range, TWO, thing, 10 ** 60))
        for row in WRONG_ROWS:
            self.assertEqual(due(far_range, LINE, (((), row),), 1), (NoRounds, 0), row)
            if row != []:
                self.assertEqual(due(far_range, LINE, ((row, ((1, 2),)),), 1), (NoRounds, 0), row)

    def test_jams_and_too_long(self):
        good = ((), ((1, 2),))
        self.assertEqual(due(far_range, JAMS, (good, good), 2), None)
        self.assertEqual(due(far_range, JAMS, (good, good), 3), (Jams, 3))
        self.assertEqual(due(far_range, JAMS, (good, good), 10 ** 60), (Jams, 3))
        # Eleven numbers, seven beats and twelve places of a text in turn: more full stands than are gone through.
        long = Course(Web([("a", "xxxxxx"), ("b", "x")], [("deal", "a", "c", "d", "lrlrr"), ("hold", "b", "e", 12, 6),
                                                           ("deal", "c", "f", "g", "lllrr"), ("deal", "d", "h", "i", "llr")]))
        by_one = [(((), tuple((number, number) for number in range(many)))) for many in (11, 7)]
        self.assertEqual(due(far_range, long, by_one, 10 ** 9), (TooLong, LONGEST))
        self.assertEqual(due(far_range, long, by_one, 600), None)


class Refused(unittest.TestCase):
    def asks(self, course, bounds, beats, lane):
        return [due(ranges, course, bounds, beats), due(reached, course, bounds, beats, lane, 1),
                due(stays, course, bounds, beats, lane, 0, 9)]

    def test_no_bounds_of_anything_ahead_of_all(self):
        for thing in anything():
            if equal_kinds(thing, ((),)) or equal_kinds(thing, [()]) or thing == ((),):
                continue
            number = 0 if isinstance(thing, (list, tuple)) and len(thing) == 1 else -1
            for beats, lane in [(1, "a"), (None, "a"), (700, None), (1, "z")]:
                for told in self.asks(LINE, thing, beats, lane):
                    self.assertTrue(equal_kinds(told, (NoBounds, number)), (thing, told))

    def test_each_row_of_bounds(self):
        good = ((1, 2),)
        for row in WRONG_ROWS:
            for told in self.asks(LINE, (row,), 1, "a"):
                self.assertEqual(told, (NoBounds, 0), row)
            for told in self.asks(TWO, [good, row], 1, "z") + self.asks(JAMS, (good, row), 700, "a"):
                self.assertEqual(told, (NoBounds, 1), row)
            for told in self.asks(TWO, (row, None), 1, "a"):
                self.assertEqual(told, (NoBounds, 0), row)
        for thing in [(good,), (good, good, good), ()]:
            for told in self.asks(TWO, thing, 1, "a"):
                self.assertEqual(told, (NoBounds, -1))
        self.assertEqual(self.asks(TWO, ((), ()), 1, "a"), [None] * 3)
        self.assertEqual(self.asks(LINE, (((FAR, FAR), (-FAR, FAR)),), 1, "a"), [None] * 3)

    def test_no_lane_of_anything_ahead_of_beats(self):
        bounds = [((1, 2),) * 9] * 2
        for thing in anything():
            if thing in ("a",):
                continue
            for beats in [1, 0, 700, 9]:
                for told in self.asks(JAMS, bounds, beats, thing)[1:]:
                    self.assertTrue(equal_kinds(told, (NoLane, thing)))

    def test_no_beat_of_anything_ahead_of_too_long(self):
        bounds = [((1, 2),) * 9] * 2
        for thing in anything() + [0, -1, 10 ** 60 + 1]:
            if type(thing) is int and 1 <= thing <= 10 ** 60:
                continue
            self.assertTrue(equal_kinds(due(reached, JAMS, bounds, thing, "a", 1), (NoBeat, thing)))

    def test_too_long_ahead_of_jams(self):
        bounds = [((1, 2),) * 9] * 2
        for beats in [601, 602, 10 ** 60]:
            self.assertEqual(self.asks(JAMS, bounds, beats, "a"), [(TooLong, LONGEST)] * 3)
        for beats in [3, 4, 600]:
            self.assertEqual(self.asks(JAMS, bounds, beats, "a"), [(Jams, 3)] * 3)
        self.assertEqual(self.asks(JAMS, bounds, 2, "a"), [None] * 3)
        # A feed that ends may jam later than one without end, or never.
        self.assertEqual(self.asks(JAMS, [((1, 2),) * 2] * 2, 600, "a"), [None] * 3)
        self.assertEqual(self.asks(JAMS, [((1, 2),) * 9, ((1, 2),) * 2], 600, "a"), [None] * 3)
        # What could be told of a beat ahead of the jam isn't.
        self.assertEqual(due(stays, JAMS, bounds, 5, "a", 9, 9), (Jams, 3))

    def test_runs_jam_alike(self):
        luck = luck_of(235)
        for _ in range(200):
            course = made_course(luck, made_web(luck, words=("join", "wait", "deal"), most=4), [0, 3])
            bounds, _ = made_bounds(luck, course.web(), 20)
            feed = tuple(tuple(low for low, _ in row) for row in bounds)
            self.assertEqual(due(ranges, course, bounds, 20), due(run, course, feed, 20))
