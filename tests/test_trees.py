import unittest

from holdgates.bounds import INPUTS, MOST
from holdgates.courses import Course
from holdgates.errors import Jams, NoGiven, NoSight, TooMany
from holdgates.trees import inputs_of, tree_of
from holdgates.webs import Web
from tests.helper import (HOLDS, LEAVES, Cases, anything, due, equal_kinds, luck_of, made_course, made_sightings,
                          made_web, unchanged)

FAR = 10 ** 12
LINE = Course(Web([("a", "x")]))
HOLD = Course(Web([("a", "x")], [("hold", "a", "b", 1, 0)]))
CROSS = Course(Web([("a", "x"), ("b", "x-")], [("cross", "a", "b", "c", "d")]))
# Jams at beat 3.
JAMS = Course(Web([("a", "x"), ("b", "x")], [("join", "a", "b", "c", 2)]))
ASKS = (inputs_of, tree_of)


class Inputs(unittest.TestCase):
    def test_of_all_inlets_by_the_last_beat(self):
        for sightings, found in [
                ([(1, "a", 5)], [(0, 0), (1, 0)]), (((2, "a", 0), (2, "a", 0)), [(0, 0), (0, 1), (1, 0)]), ((), []), ([], []),
                ([(3, "c", 5), (1, "a", 2)], [(0, 0), (0, 1), (0, 2), (1, 0), (1, 1)])]:
            self.assertTrue(equal_kinds(unchanged(inputs_of, CROSS, sightings), found))

    def test_but_the_given_ones(self):
        sightings, parts = [(3, "c", 5)], [(0, 0), (0, 1), (0, 2), (1, 0), (1, 1)]
        for gone in [[], parts[:1], parts[-1:], parts[:1] + parts[-1:], parts[1:3], parts]:
            given = [part + (7,) for part in gone]
            left = [part for part in parts if part not in gone]
            self.assertTrue(equal_kinds(unchanged(inputs_of, CROSS, sightings, given=given), left))
            self.assertTrue(equal_kinds(inputs_of(given=tuple(given), sightings=tuple(sightings), course=CROSS), left))

    def test_given_by_name_alone(self):
        for ask in ASKS:
            with self.assertRaises(TypeError):
                ask(LINE, [], [])


class Tree(unittest.TestCase):
    def test_no_sightings(self):
        for sightings in [(), []]:
            self.assertTrue(equal_kinds(unchanged(tree_of, HOLD, sightings), [("fits",)]))
        self.assertTrue(equal_kinds(tree_of(course=JAMS, sightings=[], given=[]), [("fits",)]))

    def test_one_input(self):
        # At v first, then, from v on, at v + 1.
        for number in [0, 5, -FAR, FAR]:
            self.assertTrue(equal_kinds(unchanged(tree_of, LINE, [(1, "a", number)]), [
                ("split", (0, 0), number, 1, 2), ("out", 0), ("split", (0, 0), number + 1, 3, 4), ("fits",), ("out", 0)]))

    def test_two_inputs(self):
        # At beat 2 the lesser of both goes on.
        self.assertTrue(equal_kinds(tree_of(HOLD, [(2, "b", 5)]), [
            ("split", (0, 0), 5, 1, 2), ("out", 0), ("split", (0, 1), 5, 3, 4), ("out", 0),
            ("split", (0, 0), 6, 5, 6), ("fits",), ("split", (0, 1), 6, 7, 8), ("fits",), ("out", 0)]))

    def test_given_numbers_at_the_first_and_the_last_place(self):
        for given, nodes in [
                ([(0, 0, 4)], [("out", 0)]), ([(0, 0, 5)], [("split", (0, 1), 5, 1, 2), ("out", 0), ("fits",)]),
                ([(0, 0, 6)], [("split", (0, 1), 5, 1, 2), ("out", 0), ("split", (0, 1), 6, 3, 4), ("fits",), ("out", 0)]),
                ([(0, 1, 5)], [("split", (0, 0), 5, 1, 2), ("out", 0), ("fits",)]),
                ([(0, 0, 6), (0, 1, 5)], [("fits",)]), ([(0, 0, 6), (0, 1, 6)], [("out", 0)]),
                ([(0, 0, -FAR), (0, 1, FAR)], [("out", 0)])]:
            self.assertTrue(equal_kinds(unchanged(tree_of, HOLD, [(2, "b", 5)], given=given), nodes), given)
            self.assertEqual(tree_of(HOLD, ((2, "b", 5),), given=tuple(given)), nodes)

    def test_out_by_the_first_that_is_missed_and_split_by_the_first_that_does_not_fit(self):
        sightings = [(1, "a", 3), (2, "a", 4), (1, "a", 5)]
        self.assertEqual(tree_of(LINE, sightings), [
            ("split", (0, 0), 3, 1, 2), ("out", 0), ("split", (0, 1), 3, 3, 4), ("out", 1), ("split", (0, 0), 4, 5, 6),
            ("out", 2), ("out", 0)])
        self.assertEqual(tree_of(LINE, [(1, "a", 5), (1, "a", 4)], given=[(0, 0, 5)]), [("out", 1)])

    def test_what_it_does_not_hang_on_is_split_too(self):
        self.assertEqual(tree_of(LINE, [(2, "a", 5)], given=[]), [
            ("split", (0, 0), 5, 1, 6), ("split", (0, 1), 5, 2, 3), ("out", 0), ("split", (0, 1), 6, 4, 5), ("fits",),
            ("out", 0), ("split", (0, 1), 5, 7, 8), ("out", 0), ("split", (0, 0), 6, 9, 12), ("split", (0, 1), 6, 10, 11),
            ("fits",), ("out", 0), ("split", (0, 1), 6, 13, 14), ("fits",), ("out", 0)])

    def test_lifts(self):
        lifted = Course(HOLD.web(), lifts=[(1, 0, "up")])
        self.assertEqual(tree_of(lifted, [(2, "b", 5)], given=[(0, 0, 9)]), [
            ("split", (0, 1), 5, 1, 2), ("out", 0), ("split", (0, 1), 6, 3, 4), ("fits",), ("out", 0)])

    def test_by_hand(self):
        luck, many = luck_of(201), {"fits": 0, "out": 0, "given": 0, "lifts": 0, "deep": 0}
        for _ in range(700):
            course = made_course(luck, made_web(luck, luck.randint(0, 6), most=6), [0, 1, 2, 4], most=3)
            made = made_sightings(luck, course, most=luck.choice([1, 3, 8]))
            if made is None:
                continue
            told, given, _ = made
            cases = Cases(course, told, given)
            self.assertTrue(equal_kinds(unchanged(inputs_of, course, told, given=given), cases.inputs))
            nodes, fits, leaves = cases.tree()
            self.assertTrue(leaves <= MOST)
            self.assertTrue(equal_kinds(unchanged(tree_of, course, told, given=given), nodes))
            many["fits" if fits else "out"] += 1
            many["given"] += len(given) > 0 and len(nodes) > 1
            many["lifts"] += len(course.lifts()) > 0
            many["deep"] += len(nodes) > 20
        self.assertTrue(min(many.values()) > 30, many)

    def test_beats_1_and_40(self):
        late = Course(Web([("a", "---x")], [("hold", "a", "b", 1, 1)]))
        given = [(0, at, at) for at in range(8)]
        nodes = tree_of(late, [(40, "b", 9), (12, "b", 2)], given=given)
        self.assertTrue(equal_kinds(nodes, Cases(late, [(40, "b", 9), (12, "b", 2)], given).tree()[0]))
        self.assertEqual(inputs_of(late, [(40, "b", 9)], given=given), [(0, 8), (0, 9)])

    def test_twelve_inputs_and_thirteen_and_more_as_many_as_are_given(self):
        for beat in [12, 13, 20, 40]:
            # What is given shows that the second sighting is missed, whatever the first one is.
            given, sightings = [(0, at, at) for at in range(beat - 12)], [(beat, "a", 0), (1, "a", 5)]
            self.assertEqual(inputs_of(LINE, sightings, given=given), [(0, at) for at in range(beat - 12, beat)])
            if beat > 12:
                self.assertEqual(tree_of(LINE, sightings, given=given), [("out", 1)])
                for ask in ASKS:
                    self.assertEqual(due(ask, LINE, sightings, given=given[1:]), (TooMany, INPUTS))
        for ask in ASKS:
            # Of all inlets, also those from which the lane can't be come to.
            self.assertEqual(due(ask, CROSS, [(9, "a", 0)], given=[(0, 0, 1)]), (TooMany, INPUTS))
            self.assertIsNone(due(ask, CROSS, [(9, "a", 0), (1, "b", 0)], given=[(0, 0, 1), (1, 0, 1)]))

    def test_most_leaves_and_more(self):
        for leaves, (sightings, given) in LEAVES.items():
            nodes, _, many = Cases(HOLDS, sightings, given).tree()
            self.assertEqual(many, leaves)
            refused = (TooMany, MOST) if leaves > MOST else None
            self.assertEqual(due(tree_of, HOLDS, sightings, given=given), refused, leaves)
            self.assertIsNone(due(inputs_of, HOLDS, sightings, given=given))
            if leaves <= MOST:
                self.assertTrue(equal_kinds(tree_of(HOLDS, sightings, given=given), nodes))


class Refused(unittest.TestCase):
    def all_due(self, found, course, sightings, given=()):
        for ask in ASKS:
            self.assertTrue(equal_kinds(due(ask, course, sightings, given=given), found), (sightings, given))

    def test_no_sights_of_anything(self):
        for thing in anything():
            for given in [(), None]:
                if thing in ((), []):
                    continue
                number = 0 if isinstance(thing, (list, tuple)) and len(thing) <= 8 else -1
                self.all_due((NoSight, number), HOLD, thing, given)
                self.all_due((NoSight, number), JAMS, thing, given)
                for at in [0, 1, 6]:
                    self.all_due((NoSight, at), HOLD, [(2, "b", 0)] * at + [thing] + [(50, "b", 0)], given)

    def test_each_part_of_a_sighting(self):
        for thing in anything():
            if not (type(thing) is int and 1 <= thing <= 40):
                self.all_due((NoSight, 1), HOLD, [(2, "b", 0), (thing, "b", 0)])
            if thing not in ("a", "b"):
                self.all_due((NoSight, 1), HOLD, ((2, "b", 0), (2, thing, 0)))
            if not (type(thing) is int and abs(thing) <= FAR):
                self.all_due((NoSight, 0), HOLD, [(2, "b", thing), (2, "b", None)])
        for sight in [(2, "b"), (2, "b", 0, 0), [2, "b", 0], (0, "b", 0), (41, "b", 0), (2, "b", FAR + 1), (2, "b", -FAR - 1),
                      (True, "a", 0), (2, "b", False), (2, "c", 0)]:
            self.all_due((NoSight, 0), HOLD, [sight])
        self.assertIsNone(due(tree_of, HOLD, [(2, "b", FAR), (2, "b", -FAR)]))

    def test_beats_40_and_41(self):
        given = [(0, at, 0) for at in range(39)]
        self.assertEqual(len(tree_of(LINE, [(40, "a", 0), (1, "a", 0)], given=given)), 5)
        self.all_due((NoSight, 0), LINE, [(41, "a", 0)], [(0, at, 0) for at in range(41)])

    def test_eight_and_nine(self):
        self.assertIsNone(due(tree_of, LINE, [(1, "a", 0)] * 8))
        self.assertEqual(tree_of(LINE, [(1, "a", 0)] * 8), tree_of(LINE, ((1, "a", 0),)))
        self.all_due((NoSight, -1), LINE, [(1, "a", 0)] * 9)
        self.all_due((NoSight, -1), LINE, [None] * 9)

    def test_jams_by_the_last_beat_ahead_of_lanes_that_carry_nothing(self):
        lag = Course(Web([("a", "x"), ("b", "x")], [("join", "a", "b", "c", 2), ("lag", "c", "d", 5)]))
        self.all_due((NoSight, 1), lag, [(2, "c", 0), (1, "d", 0), (2, "d", 0)], None)
        self.all_due((Jams, 3), lag, [(1, "d", 0), (3, "a", 0)], None)
        self.all_due((Jams, 3), lag, [(40, "d", 0), (1, "d", 0)], None)
        self.all_due((NoSight, 1), lag, [(40, "d", 0), (1, "e", 0)], None)
        self.assertIsNone(due(tree_of, lag, [(2, "c", 0)]))

    def test_nothing_carried_ahead_of_given_numbers(self):
        self.all_due((NoSight, 0), HOLD, [(1, "b", 0)], None)
        self.all_due((NoSight, 2), HOLD, [(1, "a", 0), (2, "b", 0), (1, "b", 0), (1, "b", 0)], [(5, 5, 5)])
        self.all_due((NoSight, 1), CROSS, [(40, "c", 0), (40, "b", 0)])

    def test_no_given_of_anything(self):
        sightings = [(3, "a", 0)]
        for thing in anything():
            number = 0 if isinstance(thing, (list, tuple)) else -1
            if thing not in ((), []):
                self.all_due((NoGiven, number), CROSS, sightings, thing)
            for ahead in [[], [(0, 0, 1)], [(0, 0, 1), (1, 0, 3)]]:
                self.all_due((NoGiven, len(ahead)), CROSS, sightings, ahead + [thing, None])
            if not (type(thing) is int and 0 <= thing <= 1):
                self.all_due((NoGiven, 0), CROSS, sightings, [(thing, 0, 0)])
            if not (type(thing) is int and 0 <= thing <= 2):
                self.all_due((NoGiven, 0), CROSS, sightings, ((0, thing, 0), None))
            if not (type(thing) is int and abs(thing) <= FAR):
                self.all_due((NoGiven, 1), CROSS, sightings, [(0, 0, 0), (0, 1, thing)])

    def test_given_ones_rise_and_come_by_then(self):
        sightings = [(3, "a", 0)]
        for given, number in [
                ([(0, 0, 1), (0, 0, 1)], 1), ([(0, 1, 1), (0, 0, 1)], 1), ([(1, 0, 1), (0, 2, 1)], 1),
                ([(0, 0, 1), (0, 2, 1), (0, 1, 1), (0, 2, 1)], 2), ([(0, 3, 1)], 0), ([(1, 1, 1), (1, 2, 1)], 1),
                ([(0, 0, 1), (2, 0, 1)], 1), ([[0, 0, 1]], 0), ([(0, 0)], 0), ([(0, 0, 1, 1)], 0), ([(0, 0, FAR + 1)], 0),
                ([(-1, 0, 1)], 0), ([(0, -1, 1)], 0), ([(False, 0, 1)], 0), ([(0, 0, True)], 0)]:
            self.all_due((NoGiven, number), CROSS, sightings, given)
        for given in [[], [(0, 0, 1), (0, 1, 1), (0, 2, 1), (1, 0, 1), (1, 1, 1)], [(0, 2, FAR), (1, 1, -FAR)]]:
            self.assertIsNone(due(tree_of, CROSS, sightings, given=given))
        self.all_due((NoGiven, 0), LINE, [], [(0, 0, 1)])
        self.all_due((NoGiven, -1), LINE, [], None)

    def test_no_given_ahead_of_too_many(self):
        self.all_due((NoGiven, 1), LINE, [(40, "a", 0)], [(0, 0, 1), (0, 0, 1)])
        self.all_due((TooMany, INPUTS), LINE, [(40, "a", 0)], [(0, 0, 1), (0, 1, 1)])
