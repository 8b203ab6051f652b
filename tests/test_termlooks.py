import itertools
import unittest

from holdgates.bounds import INPUTS, MOST
from holdgates.courses import Course
from holdgates.errors import Jams, NoBeat, NoLane, NoToken, TooMany
from holdgates.termlooks import shows_term
from holdgates.terms import hangs_on, term
from holdgates.webs import Web
from tests.helper import anything, due, equal_kinds, luck_of, made_course, made_web, some_spoilt, spoilt, unchanged

LINE = Course(Web([("a", "x")]))
CROSS = Course(Web([("a", "x"), ("b", "x")], [("cross", "a", "b", "c", "d")]))
JAMS = Course(Web([("a", "x"), ("b", "x")], [("join", "a", "b", "c", 3)]))
ONE, OTHER = (0, 0), (1, 0)
TOLD = ([(ONE, OTHER)], [(ONE,), (OTHER,)])


def by_rank(many, rank):
    """A course whose lane b carries, of so many numbers, the one by its rank, and just its lists."""
    course = Course(Web([("a", "x")], [("hold", "a", "b", many - 1, rank)]))
    parts = [(0, at) for at in range(many)]
    return course, (list(itertools.combinations(parts, many - rank)), list(itertools.combinations(parts, rank + 1)))


class Looks(unittest.TestCase):
    def is_shown(self, told, course, lane, beat, thing):
        self.assertIs(shows_term(course, lane, beat, thing), told, (lane, beat, thing))

    def test_told_lists_alone(self):
        luck, many = luck_of(241), {"told": 0, "wrong": 0, "same": 0}
        for _ in range(500):
            course = made_course(luck, made_web(luck, most=6), [0, 1, 2, 4], most=3)
            lane, beat = luck.choice(course.web().lanes()), luck.randint(1, 9)
            if due(term, course, lane, beat) or len(term(course, lane, beat)[0]) > 12:
                continue
            told = term(course, lane, beat)
            if sum(map(len, told)) == 2 and luck.random() < 0.7:
                continue
            self.assertIs(unchanged(shows_term, course, lane, beat, told), True)
            many["told"] += 1
            for wrong in some_spoilt(luck, told, 60):
                right = equal_kinds(wrong, told)
                self.is_shown(right, course, lane, beat, wrong)
                many["same" if right else "wrong"] += 1
            for _ in range(4):
                # Lists of sets of the inputs by luck, or some of the told ones.
                parts = hangs_on(course, lane, beat)
                wrong = tuple(sorted({tuple(sorted(luck.sample(parts, luck.randint(0, min(4, len(parts))))))
                                      for _ in range(luck.randint(0, 3))} | set(luck.sample(sets, luck.randint(0, len(sets)))))
                              for sets in told)
                self.is_shown(wrong == told, course, lane, beat, wrong)
        self.assertTrue(many["told"] > 60 and many["wrong"] > 2000, many)

    def test_all_of_a_small_one_spoilt(self):
        self.is_shown(True, CROSS, "c", 1, TOLD)
        self.is_shown(True, CROSS, "d", 1, TOLD[::-1])
        for wrong in spoilt(TOLD):
            self.is_shown(equal_kinds(wrong, TOLD), CROSS, "c", 1, wrong)

    def test_each_way_to_be_wrong(self):
        highs, lows = TOLD
        for wrong in [
                (lows, highs), (highs, highs), ([], lows), (highs, []), ([], []), ([()], lows), (highs, [()]), ([()], [()]),
                ([(ONE,)], lows), ([(OTHER,)], lows), (highs, lows[:1]), (highs, lows[1:]), (highs, lows[::-1]),
                (highs, [(ONE,), (ONE, OTHER), (OTHER,)]), (highs, [(ONE,), (ONE,), (OTHER,)]), ([(ONE, OTHER)] * 2, lows),
                ([(OTHER, ONE)], lows), ([(ONE, ONE, OTHER)], lows), ([(ONE, OTHER, (1, 1))], lows),
                ([(ONE, OTHER, (2, 0))], lows),
                (tuple(highs), lows), (highs, tuple(lows)), [highs, lows], (highs, lows, []), (highs,), ([[ONE, OTHER]], lows),
                ([([0, 0], OTHER)], lows), ([((False, 0), OTHER)], lows), ([((0, False), (True, 0))], lows),
                ([(ONE, OTHER)], [(ONE,), ((True, 0),)]), ([((0, 0, 0), OTHER)], lows), ([(ONE, (1, -1))], lows),
                ([(ONE, OTHER), None], lows), (highs, lows + [None]), ([ONE], [OTHER])]:
            self.is_shown(False, CROSS, "c", 1, wrong)
        self.assertIs(shows_term(thing=TOLD, beat=1, lane="c", course=CROSS), True)

    def test_of_anything(self):
        highs, lows = TOLD
        for thing in anything():
            for wrong in [thing, (thing, lows), (highs, thing), ([thing], lows), (highs, lows + [thing]),
                          (highs, [thing] + lows[1:]), ([(thing, OTHER)], lows), ([((thing, 0), OTHER)], lows),
                          (highs, [(ONE,), ((1, thing),)])]:
                self.is_shown(equal_kinds(wrong, TOLD), CROSS, "c", 1, wrong)

    def test_a_set_less_in_both(self):
        # Each that is told is right; what is left of the one list no longer meets the other's.
        course, (highs, lows) = by_rank(4, 1)
        self.is_shown(True, course, "b", 4, (highs, lows))
        for at in range(len(highs)):
            self.is_shown(False, course, "b", 4, (highs[:at] + highs[at + 1:], lows))
        for at in range(len(lows)):
            self.is_shown(False, course, "b", 4, (highs, lows[:at] + lows[at + 1:]))
            self.is_shown(False, course, "b", 4, (highs[:at] + highs[at + 1:], lows[:at] + lows[at + 1:]))
        self.is_shown(False, course, "b", 4, (highs[:1], [((0, 0),)]))

    def test_by_its_rank_up_to_more_sets_than_are_told(self):
        for many, rank in [(2, 0), (5, 2), (9, 4), (10, 4), (10, 5), (11, 5)]:
            course, told = by_rank(many, rank)
            self.assertEqual(due(term, course, "b", many), (TooMany, MOST) if many > 9 else None)
            self.is_shown(True, course, "b", many, told)
            self.is_shown(False, course, "b", many, told[::-1] if 2 * rank + 1 != many else (told[0], told[1][1:]))
            for side in (0, 1):
                wrong = [list(told[0]), list(told[1])]
                del wrong[side][len(wrong[side]) // 2]
                self.is_shown(False, course, "b", many, tuple(wrong))
                wrong[side].insert(len(wrong[side]) // 2, told[side][len(wrong[side]) // 2][1:])
                self.is_shown(False, course, "b", many, tuple(wrong))

    def test_more_inputs_than_are_told(self):
        self.assertEqual(due(term, LINE, "a", 40), (TooMany, INPUTS))
        self.is_shown(True, LINE, "a", 40, ([((0, 39),)], [((0, 39),)]))
        for highs, lows in itertools.product([[((0, 39),)], [((0, 38),)], [((0, 38), (0, 39))], [((0, 39),), ((0, 39), (0, 40))]],
                                             repeat=2):
            self.is_shown(highs == lows == [((0, 39),)], LINE, "a", 40, (highs, lows))
        for many, rank in [(13, 0), (13, 12), (13, 1), (13, 11)]:
            course, told = by_rank(many, rank)
            self.assertEqual(due(term, course, "b", many), (TooMany, INPUTS))
            self.is_shown(True, course, "b", many, told)
            self.is_shown(False, course, "b", many, (told[0][1:], told[1]))
            self.is_shown(False, course, "b", many, (told[0], told[1][:-1]))
        # Of a hold of one the greatest ahead is kept: the lesser of it and what comes goes on.
        course = Course(Web([("a", "x")], [("hold", "a", "b", 1, 0)]))
        told = ([((0, at), (0, 39)) for at in range(39)], [tuple((0, at) for at in range(39)), ((0, 39),)])
        self.is_shown(True, course, "b", 40, told)
        for at in [0, 17, 38]:
            self.is_shown(False, course, "b", 40, (told[0][:at] + told[0][at + 1:], told[1]))
            self.is_shown(False, course, "b", 40, (told[0], [told[1][0][:at] + told[1][0][at + 1:], told[1][1]]))
        for lows in (told[1][:1], told[1][1:], []):
            self.is_shown(False, course, "b", 40, (told[0], lows))

    def test_what_it_does_not_hang_on(self):
        course = Course(Web([("a", "x"), ("b", "x")], [("hold", "a", "c", 1, 0)]))
        self.is_shown(True, course, "c", 2, ([((0, 0), (0, 1))], [((0, 0),), ((0, 1),)]))
        self.is_shown(False, course, "c", 2, ([((0, 0), (0, 1), (1, 0))], [((0, 0),), ((0, 1),)]))
        self.is_shown(False, course, "c", 2, ([((0, 0), (0, 1))], [((0, 0),), ((0, 1),), ((1, 0),)]))

    def test_beats_1_and_40(self):
        late = Course(Web([("a", "---x")], [("hold", "a", "b", 1, 1)]), lifts=[(36, 0, "up"), (39, 0, "down")])
        told = term(late, "b", 40)
        self.is_shown(True, late, "b", 40, told)
        self.is_shown(False, late, "b", 40, told[::-1])
        self.is_shown(True, LINE, "a", 1, ([((0, 0),)], [((0, 0),)]))


class Refused(unittest.TestCase):
    def test_as_terms_are_but_too_many(self):
        more = Course(Web([("a", "x"), ("b", "x")], [("join", "a", "b", "c", 3), ("wait", "c", "d", 9)]))
        for thing in [None, TOLD, ([((0, 0),)], [((0, 0),)]), LINE]:
            for course, lane, beat, found in [
                    (LINE, "b", 0, (NoLane, "b")), (JAMS, "d", 41, (NoLane, "d")), (LINE, "a", 0, (NoBeat, 0)),
                    (LINE, "a", 41, (NoBeat, 41)), (JAMS, "a", 41, (NoBeat, 41)), (JAMS, "a", 4, (Jams, 4)),
                    (more, "d", 40, (Jams, 4)), (more, "d", 3, (NoToken, "d")), (LINE, "a", 40, None), (CROSS, "c", 40, None)]:
                self.assertTrue(equal_kinds(due(shows_term, course, lane, beat, thing), found))
        for thing in anything():
            if thing not in ("a", "b", "c"):
                self.assertTrue(equal_kinds(due(shows_term, JAMS, thing, None, TOLD), (NoLane, thing)))
            if not (type(thing) is int and 1 <= thing <= 40):
                self.assertTrue(equal_kinds(due(shows_term, JAMS, "a", thing, TOLD), (NoBeat, thing)))
