import itertools
import unittest

from holdgates.bounds import MOST
from holdgates.courses import Course
from holdgates.errors import Jams, NoGiven, NoSight
from holdgates.treelooks import shows_tree
from holdgates.trees import tree_of
from holdgates.webs import Web
from tests.helper import (Cases, anything, due, equal_kinds, luck_of, made_course, made_sightings, made_web,
                          other_tree, some_spoilt, spoilt, unchanged)

LINE = Course(Web([("a", "x")]))
HOLD = Course(Web([("a", "x")], [("hold", "a", "b", 1, 0)]))
JAMS = Course(Web([("a", "x"), ("b", "x")], [("join", "a", "b", "c", 2)]))
SIGHT = [(1, "a", 5)]
TOLD = [("split", (0, 0), 5, 1, 2), ("out", 0), ("split", (0, 0), 6, 3, 4), ("fits",), ("out", 0)]


class Looks(unittest.TestCase):
    def is_shown(self, told, course, sightings, thing, given=()):
        self.assertIs(shows_tree(course, sightings, thing, given=given), told, (sightings, thing, given))

    def test_told_trees_and_other_ones_by_luck_and_spoilt_ones(self):
        luck, many = luck_of(211), {"told": 0, "other": 0, "spoilt": 0, "still": 0}
        for _ in range(260):
            course = made_course(luck, made_web(luck, luck.randint(0, 6), most=6), [0, 1, 2, 4], most=3)
            made = made_sightings(luck, course, inputs=3)
            if made is None:
                continue
            sightings, given, _ = made
            cases = Cases(course, sightings, given)
            told, other = tree_of(course, sightings, given=given), other_tree(luck, cases)
            self.assertIs(unchanged(shows_tree, course, sightings, told, given=given), True)
            many["told"] += len(told) > 1
            for thing in [told, other]:
                if thing is None:
                    continue
                self.assertTrue(cases.is_tree(thing))
                self.is_shown(True, course, sightings, thing, given)
                many["other"] += thing != told
                for wrong in some_spoilt(luck, thing, 60):
                    right = cases.is_tree(wrong)
                    self.is_shown(right, course, sightings, wrong, given)
                    many["still" if right else "spoilt"] += 1
        self.assertTrue(many["told"] > 40 and many["other"] > 40 and many["still"] > 40 and many["spoilt"] > 3000, many)

    def test_all_of_a_small_one_spoilt(self):
        for wrong in spoilt(TOLD):
            self.is_shown(equal_kinds(wrong, TOLD), LINE, SIGHT, wrong)

    def test_of_anything(self):
        for thing in anything():
            for sightings in [SIGHT, []]:
                self.is_shown(False, LINE, sightings, thing)
            self.is_shown(False, LINE, SIGHT, [thing])
            self.is_shown(False, LINE, SIGHT, TOLD[:1] + [thing] + TOLD[2:])
            for at in range(5):
                wrong = [TOLD[0][:at] + (thing,) + TOLD[0][at + 1:]] + TOLD[1:]
                self.is_shown(equal_kinds(wrong, TOLD), LINE, SIGHT, wrong)
            self.is_shown(equal_kinds(thing, 0), LINE, SIGHT, TOLD[:4] + [("out", thing)])
            self.is_shown(False, LINE, SIGHT, TOLD[:4] + [("out", 0, thing)])
            self.is_shown(False, LINE, SIGHT, TOLD[:3] + [("fits", thing)] + TOLD[4:])
        self.is_shown(True, LINE, SIGHT, TOLD)

    def test_without_sightings(self):
        self.is_shown(True, JAMS, [], [("fits",)])
        for thing in [[], [("out", 0)], [("fits",), ("fits",)], (("fits",),), [["fits"]], ("fits",), [("fits", )] * 2]:
            self.is_shown(False, JAMS, [], thing)
        self.assertIs(shows_tree(course=JAMS, sightings=[], thing=[("fits",)], given=()), True)

    def test_each_node_just_one_nodes_child_behind_it(self):
        out, fits = ("out", 0), ("fits",)
        for thing, right in [
                # Split at 6 first; children in either order of numbers.
                ([("split", (0, 0), 6, 1, 2), ("split", (0, 0), 5, 3, 4), out, out, fits], True),
                ([("split", (0, 0), 6, 2, 1), out, ("split", (0, 0), 5, 4, 3), fits, out], True),
                ([("split", (0, 0), 5, 2, 1), ("split", (0, 0), 6, 4, 3), out, out, fits], True),
                # Exchanged, twice the same, one more, one that nothing leads to, one ahead, itself, beyond.
                ([("split", (0, 0), 5, 2, 1), out, ("split", (0, 0), 6, 3, 4), fits, out], False),
                ([("split", (0, 0), 5, 1, 1), out], False), ([("split", (0, 0), 5, 1, 2), out, out], False),
                (TOLD + [out], False), (TOLD + [fits], False), (TOLD[:-1], False),
                ([("split", (0, 0), 5, 1, 2), out, ("split", (0, 0), 6, 3, 1), fits], False),
                ([("split", (0, 0), 5, 1, 2), out, ("split", (0, 0), 6, 3, 3), fits], False),
                ([("split", (0, 0), 5, 1, 2), out, ("split", (0, 0), 6, 3, 2), fits], False),
                ([("split", (0, 0), 5, 1, 2), out, ("split", (0, 0), 6, 3, 0), fits], False),
                ([("split", (0, 0), 5, 1, 2), out, ("split", (0, 0), 6, 3, 5), fits, out], False),
                ([("split", (0, 0), 5, -4, 2), out, ("split", (0, 0), 6, 3, 4), fits, out], False),
                # What is left has a leaf for each box that one of its children would have.
                ([("split", (0, 0), 6, 1, 1), out], False), ([("split", (0, 0), 6, 0, 1), out], False),
                ([("split", (0, 0), 6, -1, 1), out], False), ([("split", (0, 0), 6, -2, 1), out], False),
                ([("split", (0, 0), 5, 1, 2), ("split", (0, 0), 4, 3, 4), ("split", (0, 0), 6, 5, 3), out, out, fits], False),
                ([("split", (0, 0), 5, 1, 2), ("split", (0, 0), 4, 3, 4), ("split", (0, 0), 6, 5, 6), out, out, fits, out], True),
                ([("split", (0, 0), 5, 1, 2), out, ("split", (0, 0), 6, 3, 1), fits], False)]:
            self.assertIs(Cases(LINE, SIGHT).is_tree(thing), right)
            self.is_shown(right, LINE, SIGHT, thing)

    def test_both_parts_have_numbers(self):
        sightings, one, other = [(2, "b", 3)], (0, 0), (0, 1)
        told = tree_of(HOLD, sightings)
        # In the first leaf that fits the one input is 3, the other one from 3 on.
        self.assertEqual(told[5], ("fits",))
        for part, cut, right in [(other, 4, True), (other, 10 ** 30, True), (other, 3, False), (other, 2, False),
                                 (one, 3, False), (one, 4, False), (other, -(10 ** 30), False)]:
            thing = told[:5] + [("split", part, cut, 9, 10)] + told[6:] + [("fits",), ("fits",)]
            self.is_shown(right, HOLD, sightings, thing)
        # Once more: below 9, then from 9 on.
        for at, cut, right in [(9, 4, True), (9, 8, True), (9, 9, False), (9, 3, False), (10, 9, False), (10, 10, True),
                               (10, 5, False)]:
            thing = told[:5] + [("split", other, 9, 9, 10)] + told[6:] + [("fits",), ("fits",)]
            thing[at] = ("split", other, cut, 11, 12)
            self.is_shown(right, HOLD, sightings, thing + [("fits",), ("fits",)])
        # An open end has numbers below any one, and from it on.
        for cut in [-(10 ** 30), 10 ** 30]:
            low, high = ([("out", 0)], told) if cut < 0 else (told, told)
            thing = [("split", other, cut, 1, 1 + len(low))]
            for nodes in (low, high):
                first = len(thing)
                thing += [(*node[:3], *[child + first for child in node[3:]]) if node[0] == "split" else node for node in nodes]
            self.is_shown(cut < 0, HOLD, sightings, thing)

    def test_beyond_what_can_be_fed(self):
        far = 10 ** 12
        for cut in [far + 2, 10 ** 40]:
            self.is_shown(True, LINE, [(1, "a", far)], [
                ("split", (0, 0), cut, 1, 2), ("split", (0, 0), far + 1, 3, 4), ("out", 0), ("split", (0, 0), far, 5, 6),
                ("out", 0), ("out", 0), ("fits",)])
        self.is_shown(True, LINE, [(1, "a", -far)], [
            ("split", (0, 0), -(10 ** 40), 1, 2), ("out", 0), ("split", (0, 0), -far, 3, 4), ("out", 0),
            ("split", (0, 0), 1 - far, 5, 6), ("fits",), ("out", 0)])
        # That no number can be fed beyond doesn't make a leaf fit.
        self.is_shown(False, LINE, [(1, "a", far)], [("split", (0, 0), far, 1, 2), ("out", 0), ("fits",)])

    def test_given_inputs_are_not_split(self):
        given = [(0, 0, 7)]
        self.is_shown(True, HOLD, [(2, "b", 7)], [("split", (0, 1), 7, 1, 2), ("out", 0), ("fits",)], given)
        for cut in [6, 7, 8]:
            thing = [("split", (0, 0), cut, 1, 2), ("out", 0), ("split", (0, 1), 7, 3, 4), ("out", 0), ("fits",)]
            self.is_shown(False, HOLD, [(2, "b", 7)], thing, given)

    def test_out_by_whichever_is_missed(self):
        # Below 6 the second is missed, from 6 to 8 all are, from 9 on the first and the last.
        sightings = [(1, "a", 5), (1, "a", 9), (1, "a", 5)]
        for outs in itertools.product([0, 1, 2, 3, -1, True, False, None], repeat=3):
            low, middle, high = outs
            right = low == 1 and middle in (0, 1, 2) and high in (0, 2) and not any(type(out) is bool for out in outs)
            self.is_shown(right, LINE, sightings, [("split", (0, 0), 6, 1, 2), ("out", low), ("split", (0, 0), 9, 3, 4),
                                                   ("out", middle), ("out", high)])

    def test_more_inputs_than_are_told(self):
        sightings, part = [(40, "a", 5)], (0, 39)
        thing = [("split", part, 5, 1, 2), ("out", 0), ("split", part, 6, 3, 4), ("fits",), ("out", 0)]
        self.is_shown(True, LINE, sightings, thing)
        self.is_shown(False, LINE, sightings, thing[:3] + thing[3:][::-1])
        self.is_shown(True, LINE, sightings, thing, [(0, 0, 5)])
        self.is_shown(False, LINE, sightings, thing, [(0, 39, 5)])
        self.is_shown(True, LINE, sightings, [("fits",)], [(0, 39, 5)])

    def test_more_leaves_than_are_told(self):
        # Cut into single numbers, two hundred and more of which are out.
        for many in [MOST - 1, MOST, 3 * MOST]:
            thing = []
            for at in range(many):
                thing.extend([("split", (0, 0), at, len(thing) + 1, len(thing) + 2), ("out", 0) if at != 8 else ("fits",)])
            thing.append(("out", 0))
            self.is_shown(True, LINE, [(1, "a", 7)], thing)
            self.is_shown(False, LINE, [(1, "a", 6)], thing)

    def test_refused_as_trees_are_but_too_many(self):
        for thing in [None, TOLD, [("fits",)], Course(LINE.web())]:
            for course, sightings, given, found in [
                    (LINE, None, None, (NoSight, -1)), (LINE, [(1, "a", 0)] * 9, (), (NoSight, -1)),
                    (LINE, [(41, "a", 0)], (), (NoSight, 0)), (JAMS, [(1, "a", 0), (3, "c", 0)], None, (Jams, 3)),
                    (HOLD, [(2, "b", 0), (1, "b", 0)], None, (NoSight, 1)), (HOLD, [(2, "b", 0)], None, (NoGiven, -1)),
                    (HOLD, [(2, "b", 0)], [(0, 0, 1), (0, 0, 1)], (NoGiven, 1)), (LINE, [(40, "a", 0)], (), None),
                    (LINE, [(12, "a", 0)], [], None)]:
                self.assertTrue(equal_kinds(due(shows_tree, course, sightings, thing, given=given), found))
        for thing in anything():
            if thing not in ((), []):
                number = 0 if isinstance(thing, (list, tuple)) else -1
                self.assertTrue(equal_kinds(due(shows_tree, LINE, SIGHT, TOLD, given=thing), (NoGiven, number)))
                number = 0 if isinstance(thing, (list, tuple)) and len(thing) <= 8 else -1
                self.assertTrue(equal_kinds(due(shows_tree, LINE, thing, TOLD), (NoSight, number)))
        with self.assertRaises(TypeError):
            shows_tree(LINE, SIGHT, TOLD, ())
