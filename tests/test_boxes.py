import itertools
import unittest

from holdgates.bounds import INPUTS, MOST
from holdgates.boxes import boxes, has, hull, within
from holdgates.courses import Course
from holdgates.errors import Jams, NoGiven, NoSight, TooMany
from holdgates.trees import inputs_of, tree_of
from holdgates.webs import Web
from tests.helper import (HOLDS, LEAVES, Cases, anything, are_shown, due, equal_kinds, fed_by, leaf_of, lies_in,
                          luck_of, made_course, made_sightings, made_web, unchanged)

LINE = Course(Web([("a", "x")]))
HOLD = Course(Web([("a", "x")], [("hold", "a", "b", 1, 0)]))
JAMS = Course(Web([("a", "x"), ("b", "x")], [("join", "a", "b", "c", 2)]))
FOUND = [((None, 3), (5, 5)), ((4, None), (1, 2)), ((7, 7), (None, None))]


class Boxes(unittest.TestCase):
    def test_one_input(self):
        self.assertTrue(equal_kinds(unchanged(boxes, LINE, [(1, "a", 5)]), [((5, 5),)]))
        self.assertTrue(equal_kinds(unchanged(boxes, LINE, ((1, "a", 5), (1, "a", 6))), []))

    def test_no_inputs(self):
        for sightings, given, found in [([], [], [()]), ([(1, "a", 5)], [(0, 0, 5)], [()]), ([(1, "a", 5)], [(0, 0, 6)], [])]:
            self.assertTrue(equal_kinds(boxes(course=LINE, sightings=sightings, given=given), found))

    def test_open_ends(self):
        self.assertTrue(equal_kinds(boxes(HOLD, [(2, "b", 5)]), [((5, 5), (5, None)), ((6, None), (5, 5))]))
        most = Course(Web([("a", "x")], [("hold", "a", "b", 1, 1)]))
        self.assertTrue(equal_kinds(boxes(most, [(2, "b", 5)]), [((None, 4), (5, 5)), ((5, 5), (None, 4)), ((5, 5), (5, 5))]))
        self.assertEqual(boxes(HOLD, [(1, "a", 5)]), [((5, 5),)])
        self.assertEqual(boxes(HOLD, [(2, "b", 5)], given=[(0, 1, 5)]), [((5, None),)])

    def test_all_feeds_of_a_few_small_numbers(self):
        luck, many = luck_of(221), {"none": 0, "some": 0, "given": 0}
        for _ in range(260):
            course = made_course(luck, made_web(luck, luck.randint(0, 6), most=6), [0, 1, 2, 4], most=3)
            made = made_sightings(luck, course, inputs=3)
            if made is None:
                continue
            sightings, given, _ = made
            found, inputs = unchanged(boxes, course, sightings, given=given), inputs_of(course, sightings, given=given)
            cases = Cases(course, sightings, given)
            self.assertTrue(equal_kinds(found, cases.tree()[1]))
            tree, shown = tree_of(course, sightings, given=given), 0
            for numbers in itertools.product(range(-1, 6), repeat=len(inputs)):
                feed = fed_by(course.web(), cases.last, {**dict(zip(inputs, numbers)), **cases.given})
                lies = [lies_in(box, numbers) for box in found]
                self.assertTrue(sum(lies) <= 1)
                leaf = leaf_of(tree, dict(zip(inputs, numbers)))
                self.assertIs(leaf == ("fits",), any(lies))
                if leaf[0] == "out":
                    self.assertFalse(are_shown(course, feed, [sightings[leaf[1]]]))
                self.assertIs(are_shown(course, feed, sightings), any(lies))
                self.assertIs(has(found, numbers), any(lies))
                shown += any(lies)
            self.assertEqual(within(found, -1, 5), shown)
            many["some" if shown else "none"] += 1
            many["given"] += len(given) > 0 and shown > 0 and len(inputs) > 0
        self.assertTrue(min(many.values()) > 30, many)

    def test_most_leaves_and_more(self):
        for leaves, (sightings, given) in LEAVES.items():
            refused = (TooMany, MOST) if leaves > MOST else None
            self.assertEqual(due(boxes, HOLDS, sightings, given=given), refused)

    def test_refused_as_trees_are(self):
        for course, sightings, given, found in [
                (LINE, None, None, (NoSight, -1)), (LINE, [(1, "a", 0)] * 9, (), (NoSight, -1)),
                (LINE, [(41, "a", 0)], (), (NoSight, 0)), (JAMS, [(1, "a", 0), (3, "c", 0)], None, (Jams, 3)),
                (HOLD, [(2, "b", 0), (1, "b", 0)], None, (NoSight, 1)), (HOLD, [(2, "b", 0)], None, (NoGiven, -1)),
                (HOLD, [(2, "b", 0)], [(0, 0, 1), (0, 0, 1)], (NoGiven, 1)), (LINE, [(13, "a", 0)], (), (TooMany, INPUTS))]:
            self.assertTrue(equal_kinds(due(boxes, course, sightings, given=given), found))
        for thing in anything():
            if thing not in ((), []):
                number = 0 if isinstance(thing, (list, tuple)) and len(thing) <= 8 else -1
                self.assertTrue(equal_kinds(due(boxes, LINE, thing), (NoSight, number)))
        with self.assertRaises(TypeError):
            boxes(LINE, [], ())


class Counts(unittest.TestCase):
    def test_has(self):
        for numbers, right in [((3, 5), True), ((-10 ** 70, 5), True), ((4, 5), False), ((4, 1), True), ((10 ** 70, 2), True),
                               ((3, 1), False), ((4, 3), False), ((7, 9), True), ((7, -9), True), ((8, 3), False)]:
            self.assertIs(unchanged(has, FOUND, numbers), right, numbers)
            self.assertIs(has(numbers=numbers, found=FOUND), right)
        self.assertIs(has([()], ()), True)
        self.assertIs(has([], ()), False)
        self.assertIs(has([], (1, 2)), False)
        self.assertIs(has([((None, None),)], (5,)), True)

    def test_within(self):
        disjoint = [((None, 3), (5, 5)), ((4, None), (1, 2)), ((7, 7), (3, None))]
        for low in range(-3, 10):
            for high in range(low - 2, 12):
                many = sum(any(lies_in(box, numbers) for box in disjoint)
                           for numbers in itertools.product(range(low, high + 1), repeat=2))
                self.assertTrue(equal_kinds(unchanged(within, disjoint, low, high), many))
        self.assertEqual(within(high=7, found=disjoint, low=7), 1)

    def test_within_of_far_bounds(self):
        self.assertEqual(within([((None, None), (None, None), (0, 9))], -10 ** 60, 10 ** 60), (2 * 10 ** 60 + 1) ** 2 * 10)
        self.assertEqual(within([((5, None),)], -10 ** 5000, 10 ** 5000), 10 ** 5000 - 4)
        self.assertEqual(within([((None, 5),), ((6, 6),)], -10 ** 5000, 5), 10 ** 5000 + 6)
        self.assertEqual(within([((3, 3), (None, None))], 4, 10), 0)

    def test_within_without_boxes_or_inputs(self):
        self.assertTrue(equal_kinds(within([], 0, 9), 0))
        self.assertTrue(equal_kinds(within([()], 0, 9), 1))

    def test_hull(self):
        for found, right in [(FOUND, [(None, None), (None, None)]), (FOUND[1:2], [(4, None), (1, 2)]),
                             ([((1, 2), (None, 4)), ((3, 9), (7, 8))], [(1, 9), (None, 8)]), ([()], []),
                             ([((5, 5),), ((2, None),)], [(2, None)]), ([((0, 0),), ((-4, -4),)], [(-4, 0)])]:
            self.assertTrue(equal_kinds(unchanged(hull, found), right), found)
        self.assertIsNone(hull(found=[]))

    def test_hull_against_going_through_them(self):
        luck = luck_of(222)
        for _ in range(60):
            found = []
            for _ in range(luck.randint(1, 4)):
                ends = [sorted([luck.randint(-3, 3), luck.randint(-3, 3)]) for _ in range(2)]
                found.append(tuple((low, high) for low, high in ends))
            there = [numbers for numbers in itertools.product(range(-3, 4), repeat=2) if has(found, numbers)]
            self.assertEqual(hull(found), [(min(row), max(row)) for row in zip(*there)])
