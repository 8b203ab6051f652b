import itertools
import unittest

from holdgates.blame import blame, shows_blame, would
from holdgates.bounds import INPUTS, MOST
from holdgates.courses import Course
from holdgates.errors import Jams, NoGiven, NoLook, NoSight, TooMany
from holdgates.feeds import times_by
from holdgates.webs import Web
from tests.helper import (HOLDS, LEAVES, Cases, anything, are_shown, due, equal_kinds, fed_by, luck_of, made_course,
                          made_sightings, made_web, shown_by, some_spoilt, spoilt, unchanged)

FAR = 10 ** 12
LINE = Course(Web([("a", "x")]))
HOLD = Course(Web([("a", "x")], [("hold", "a", "b", 1, 0)]))
CROSS = Course(Web([("a", "x"), ("b", "x-")], [("cross", "a", "b", "c", "d")]))
JAMS = Course(Web([("a", "x"), ("b", "x")], [("join", "a", "b", "c", 2)]))
TWICE = [(1, "a", 3), (2, "a", 4), (1, "a", 5)]


def cases_of(course, sightings, numbers, given):
    """Some of the sightings by hand, with the numbers given by their last beat."""
    some = [sightings[number] for number in numbers]
    times = times_by(course.web(), max([beat for beat, _, _ in some], default=0))
    return Cases(course, some, [told for told in given if told[1] < times[told[0]]])


def blame_by_hand(course, sightings, given):
    """(numbers, tree) by the document's words, None where a feed shows all; TooMany where a tree has too many leaves."""
    left = list(range(len(sightings)))
    told = cases_of(course, sightings, left, given).tree(MOST)
    if told is None or told[1]:
        return None if told else TooMany
    for number in reversed(left[:]):
        others = [other for other in left if other != number]
        more = cases_of(course, sightings, others, given).tree(MOST)
        if more is None:
            return TooMany
        if not more[1]:
            left, told = others, more
    return left, told[0]


def is_told_feed(course, sightings, given, feed):
    """Whether a feed has any whole numbers, the given ones too, cut at the last beat of all sightings."""
    times = times_by(course.web(), max([beat for beat, _, _ in sightings], default=0))
    if type(feed) is not tuple or [type(row) for row in feed] != [tuple] * len(times) or [len(row) for row in feed] != times:
        return False
    return (all(type(number) is int for row in feed for number in row)
            and all(feed[inlet][at] == number for inlet, at, number in given))


def is_blame(course, sightings, given, thing):
    """By the document's words: whether a thing is blame."""
    if type(thing) is not tuple or len(thing) != 3 or any(type(part) is not list for part in thing):
        return False
    numbers, tree, feeds = thing
    if any(type(number) is not int or not 0 <= number < len(sightings) for number in numbers):
        return False
    if any(one >= other for one, other in zip(numbers, numbers[1:])) or len(feeds) != len(numbers):
        return False
    if not cases_of(course, sightings, numbers, given).is_tree(tree) or ("fits",) in tree:
        return False
    for number, feed in zip(numbers, feeds):
        others = [sightings[other] for other in numbers if other != number]
        if not is_told_feed(course, sightings, given, feed) or not are_shown(course, feed, others):
            return False
    return True


class Blame(unittest.TestCase):
    def test_from_the_last_to_the_first(self):
        # The third is left out first, as the first and it alone show why; then the second.
        told = unchanged(blame, LINE, TWICE)
        self.assertEqual(told[:2], ([0, 2], [
            ("split", (0, 0), 3, 1, 2), ("out", 0), ("split", (0, 0), 4, 3, 4), ("out", 1), ("out", 0)]))
        self.assertTrue(is_blame(LINE, TWICE, [], told))
        self.assertEqual(blame(course=LINE, sightings=TWICE + [(1, "a", 3)], given=())[0], [0, 2])
        self.assertEqual(blame(LINE, TWICE + [(1, "a", 7)])[0], [0, 2])
        self.assertEqual(blame(LINE, [(2, "a", 1), (1, "a", 1), (2, "a", 2), (1, "a", 2)])[0], [0, 2])

    def test_none_where_a_feed_shows_all(self):
        for sightings, given in [([], []), (TWICE[:2], []), (TWICE[1:], []), ([(1, "a", 3)], [(0, 0, 3)]),
                                 ([(2, "b", 3)], [(0, 0, 3)])]:
            self.assertIsNone(blame(HOLD, sightings, given=given))

    def test_one_sighting_that_no_feed_shows(self):
        for sightings, given, told in [
                ([(1, "a", 3)], [(0, 0, 4)], ([0], [("out", 0)], [((4,),)])),
                ([(2, "a", 7), (1, "a", 3)], [(0, 0, 4), (0, 1, 7)], ([1], [("out", 0)], [((4, 7),)])),
                ([(1, "a", 3), (2, "a", 8)], [(0, 0, 4), (0, 1, 7)], ([0], [("out", 0)], [((4, 7),)])),
                ([(2, "a", 8), (1, "a", 3)], [(0, 0, 4), (0, 1, 7)], ([0], [("out", 0)], [((4, 7),)]))]:
            self.assertTrue(equal_kinds(blame(LINE, sightings, given=given), told))
            self.assertIs(shows_blame(LINE, sightings, told, given=given), True)

    def test_all_inputs_given(self):
        given = [(0, 0, 1), (0, 1, 2), (0, 2, 3)]
        sightings = [(2, "b", 1), (3, "b", 3), (3, "a", 3), (3, "b", 2)]
        self.assertTrue(equal_kinds(blame(HOLD, sightings, given=given), ([1], [("out", 0)], [((1, 2, 3),)])))
        self.assertIsNone(blame(HOLD, [(2, "b", 1), (3, "b", 2)], given=given))

    def test_feeds_are_cut_at_the_last_beat_of_all(self):
        sightings = [(1, "a", 3), (1, "a", 4), (5, "a", 9)]
        told = blame(LINE, sightings, given=[(0, 4, 9), (0, 2, 6)][::-1])
        self.assertEqual(told[0], [0, 1])
        for feed in told[2]:
            self.assertEqual((len(feed[0]), feed[0][2], feed[0][4]), (5, 6, 9))
        self.assertEqual([feed[0][0] for feed in told[2]], [4, 3])
        # What is given behind the last beat of those left is no matter of their tree.
        self.assertTrue(cases_of(LINE, sightings, [0, 1], [(0, 2, 6), (0, 4, 9)]).is_tree(told[1]))

    def test_of_any_whole_numbers(self):
        # Above the greatest number that can be fed there is one that shows it.
        sightings = [(3, "b", FAR), (1, "a", FAR)]
        course = Course(Web([("a", "x")], [("hold", "a", "b", 2, 0)]))
        self.assertIsNone(blame(course, sightings))
        told = blame(course, sightings + [(2, "a", FAR), (3, "a", FAR - 1)])
        self.assertEqual(told[0], [0, 3])
        self.assertTrue(is_blame(course, sightings + [(2, "a", FAR), (3, "a", FAR - 1)], [], told))

    def test_by_hand(self):
        luck, many = luck_of(251), {"none": 0, "one": 0, "more": 0, "given": 0, "left": 0}
        for _ in range(700):
            course = made_course(luck, made_web(luck, luck.randint(0, 6), most=6), [0, 1, 2, 4], most=3)
            made = made_sightings(luck, course, most=luck.choice([2, 4, 8]), inputs=3)
            if made is None:
                continue
            sightings, given, _ = made
            found = blame_by_hand(course, sightings, given)
            if found is TooMany:
                self.assertEqual(due(blame, course, sightings, given=given), (TooMany, MOST))
                continue
            told = unchanged(blame, course, sightings, given=given)
            if found is None:
                self.assertIsNone(told)
                many["none"] += 1
                continue
            self.assertTrue(equal_kinds(told[:2], found))
            self.assertTrue(is_blame(course, sightings, given, told))
            self.assertIs(shows_blame(course, sightings, told, given=given), True)
            many["one" if len(found[0]) == 1 else "more"] += 1
            many["given"] += len(given) > 0
            many["left"] += len(found[0]) < len(sightings)
        self.assertTrue(min(many.values()) > 30, many)

    def test_none_of_all_feeds_shows_them(self):
        luck, many = luck_of(252), 0
        for _ in range(300):
            course = made_course(luck, made_web(luck, luck.randint(0, 6), most=6), [0, 1, 2, 4], most=3)
            made = made_sightings(luck, course, most=3, inputs=3)
            if made is None or due(blame, course, made[0], given=made[1]):
                continue
            sightings, given, _ = made
            cases, told = Cases(course, sightings, given), blame(course, sightings, given=given)
            shown = False
            for numbers in itertools.product(range(-1, 6), repeat=len(cases.inputs)):
                feed = fed_by(course.web(), cases.last, {**dict(zip(cases.inputs, numbers)), **cases.given})
                some = sightings if told is None else [sightings[number] for number in told[0]]
                shown = shown or are_shown(course, feed, some)
            self.assertIs(shown, told is None)
            many += told is not None
        self.assertTrue(many > 50, many)

    def test_too_many(self):
        for leaves, (sightings, given) in LEAVES.items():
            found = blame_by_hand(HOLDS, sightings, given)
            self.assertTrue(leaves <= MOST or found is TooMany)
            self.assertEqual(due(blame, HOLDS, sightings, given=given), (TooMany, MOST) if found is TooMany else None)
        # All of them are out at once, but a tree that is looked at on the way has too many leaves.
        sightings, given = [(8, "a", 0), (8, "a", 3), (1, "a", 0)], [(0, 0, 5)]
        self.assertEqual(len(Cases(LINE, sightings, given).tree()[0]), 1)
        self.assertIs(blame_by_hand(LINE, sightings, given), TooMany)
        self.assertEqual(due(blame, LINE, sightings, given=given), (TooMany, MOST))
        # The other way round those are left out first, and none of their own trees is looked at.
        self.assertEqual(blame(LINE, sightings[::-1], given=given)[:2], ([0], [("out", 0)]))


class Looks(unittest.TestCase):
    def is_shown(self, told, course, sightings, thing, given=()):
        self.assertIs(shows_blame(course, sightings, thing, given=given), told, (sightings, thing, given))

    def test_spoilt(self):
        luck, many = luck_of(253), {"right": 0, "wrong": 0}
        for _ in range(250):
            course = made_course(luck, made_web(luck, luck.randint(0, 6), most=6), [0, 1, 2, 4], most=3)
            made = made_sightings(luck, course, inputs=2)
            if made is None or due(blame, course, made[0], given=made[1]):
                continue
            sightings, given, _ = made
            told = blame(course, sightings, given=given)
            if told is None:
                continue
            for wrong in some_spoilt(luck, told, 60):
                right = is_blame(course, sightings, given, wrong)
                self.is_shown(right, course, sightings, wrong, given)
                many["right" if right else "wrong"] += 1
        self.assertTrue(many["right"] > 30 and many["wrong"] > 1500, many)

    def test_all_of_a_small_one_spoilt(self):
        told = blame(LINE, TWICE)
        for wrong in spoilt(told):
            self.is_shown(is_blame(LINE, TWICE, (), wrong), LINE, TWICE, wrong)

    def test_of_anything(self):
        told = blame(LINE, TWICE)
        numbers, tree, feeds = told
        for thing in anything() + [list(told), (numbers, tree), (numbers, tree, feeds, []), ([], [("fits",)], [])]:
            self.is_shown(False, LINE, TWICE, thing)
            self.is_shown(False, LINE, [], thing)
            for at in range(3):
                wrong = told[:at] + (thing,) + told[at + 1:]
                self.is_shown(is_blame(LINE, TWICE, (), wrong), LINE, TWICE, wrong)
            for wrong in [([thing, 2], tree, feeds), ([0, thing], tree, feeds), (numbers, tree, [thing, feeds[1]]),
                          (numbers, tree, [feeds[0], (thing,)]), (numbers, tree, [feeds[0], ((feeds[1][0][0], thing),)])]:
                self.is_shown(is_blame(LINE, TWICE, (), wrong), LINE, TWICE, wrong)
        self.assertIs(shows_blame(thing=told, sightings=tuple(TWICE), course=LINE, given=[]), True)

    def test_another_ones_blame(self):
        # Others than those that are told may be blamed, as long as each is needed.
        sightings = TWICE + [(1, "a", 6)]
        for numbers, right in [([0, 2], True), ([0, 3], True), ([2, 3], True), ([0, 2, 3], False), ([0, 1, 2], False),
                               ([0], False), ([2, 0], False), ([0, 0], False), ([0, 4], False), ([-1, 0], False)]:
            some = [sightings[number] for number in numbers if number in range(4)]
            tree = blame(LINE, some)
            nodes = tree[1] if tree else [("fits",)]
            feeds = [((some[1 - at][2] if len(some) == 2 else 0, 4),) for at in range(len(numbers))]
            self.is_shown(right, LINE, sightings, (numbers, nodes, feeds))
        self.is_shown(False, LINE, sightings, ([0, 2], blame(LINE, TWICE)[1], [((3, 4),), ((5, 4),)]))

    def test_feeds(self):
        sightings, given = [(1, "a", 3), (1, "a", 5), (3, "a", 9)], [(0, 2, 9)]
        told = blame(LINE, sightings, given=given)
        self.is_shown(True, LINE, sightings, told, given)
        for one, right in [(((5, 0, 9),), True), (((5, 10 ** 70, 9),), True), (((5, -10 ** 70, 9),), True),
                           (((5, 0, 8),), False), (((5, 0),), False), (((5, 0, 9, 1),), False), (((3, 0, 9),), False),
                           (((5, None, 9),), False), (((5, True, 9),), False), ([(5, 0, 9)], False), (([5, 0, 9],), False),
                           (((5, 0, 9), ()), False), ((), False)]:
            self.is_shown(right, LINE, sightings, (told[0], told[1], [one, told[2][1]]), given)

    def test_more_inputs_and_leaves_than_are_told(self):
        sightings, part = [(40, "a", 5), (40, "a", 6)], (0, 39)
        tree = [("split", part, 6, 1, 2), ("out", 1), ("out", 0)]
        feeds = [((0,) * 39 + (number,),) for number in (6, 5)]
        self.assertEqual(due(blame, LINE, sightings), (TooMany, INPUTS))
        self.is_shown(True, LINE, sightings, ([0, 1], tree, feeds))
        self.is_shown(False, LINE, sightings, ([0, 1], tree, feeds[::-1]))
        thing = []
        for at in range(2 * MOST):
            thing.extend([("split", (0, 0), at, len(thing) + 1, len(thing) + 2), ("out", 1 if at == 4 else 0)])
        thing.append(("out", 0))
        sightings = [(1, "a", 3), (1, "a", 7)]
        self.is_shown(True, LINE, sightings, ([0, 1], thing, [((7,),), ((3,),)]))
        self.is_shown(False, LINE, sightings[::-1], ([0, 1], thing, [((3,),), ((7,),)]))

    def test_none_is_none(self):
        for sightings in [TWICE, TWICE[:1], []]:
            self.is_shown(False, LINE, sightings, None)


class Would(unittest.TestCase):
    def test_against_all_feeds(self):
        luck, many = luck_of(254), {"none": 0, "closed": 0, "open": 0, "later": 0}
        for _ in range(700):
            course = made_course(luck, made_web(luck, luck.randint(0, 6), most=6), [0, 1, 2, 4], most=3)
            made = made_sightings(luck, course, most=4, inputs=2, last=5)
            if made is None:
                continue
            sightings, given, _ = made
            cases = Cases(course, sightings, given)
            look = (luck.randint(1, cases.last + 1), luck.choice(course.web().lanes()))
            parts = [part for part in Cases(course, [look + (0,)]).all if part not in cases.given]
            inputs = [part for part in cases.all + [part for part in parts if part not in cases.all] if part not in cases.given]
            if len(inputs) > 4 or due(would, course, sightings, look, given=given):
                continue
            told = unchanged(would, course, sightings, look, given=given)
            lows, far = set(), 1000
            # Small numbers, and some beyond all that are sought.
            for numbers in itertools.product([-far, *range(-1, 6), far], repeat=len(inputs)):
                feed = fed_by(course.web(), max(cases.last, look[0]), {**dict(zip(inputs, numbers)), **cases.given})
                if are_shown(course, feed, sightings):
                    lows.add(shown_by(course, feed, *look))
            if not lows:
                self.assertIsNone(told)
                many["none"] += 1
                continue
            low, high = min(lows), max(lows)
            self.assertTrue(equal_kinds(told, (None if low == -far else low, None if high == far else high)))
            many["open" if None in told else "closed"] += 1
            many["later"] += look[0] > cases.last
        self.assertTrue(min(many.values()) > 20, many)

    def test_ends(self):
        for sightings, given, look, told in [
                ([], [], (1, "a"), (None, None)), ([(2, "b", 5)], [], (1, "a"), (5, None)),
                ([(2, "b", 5)], [(0, 1, 5)], (1, "a"), (5, None)),
                ([(2, "b", 5)], [(0, 1, 7)], (1, "a"), (5, 5)), ([(2, "b", 5), (1, "a", 9)], [], (2, "a"), (5, 5)),
                ([(2, "b", 5)], [], (3, "b"), (None, None)), ([(2, "b", 5), (2, "a", 5)], [], (3, "b"), (None, None)),
                ([(2, "b", 5), (2, "a", 5), (1, "a", 6)], [], (3, "b"), (None, 6)), ([(2, "b", 5)], [(0, 0, 4)], (2, "a"), None),
                ([(2, "b", FAR)], [], (2, "a"), (FAR, None)), ([(2, "b", FAR), (1, "a", FAR - 1)], [], (1, "a"), None)]:
            self.assertTrue(equal_kinds(would(HOLD, sightings, look, given=given), told), (sightings, look))
            self.assertTrue(equal_kinds(would(given=tuple(given), look=look, sightings=tuple(sightings), course=HOLD), told))

    def test_later_inputs_are_not_counted(self):
        self.assertEqual(would(LINE, [], (40, "a")), (None, None))
        late = Course(Web([("a", "x")], [("hold", "a", "b", 12, 12)]))
        self.assertEqual(would(late, [(1, "a", 3)], (13, "b")), (3, None))
        self.assertEqual(would(late, [(1, "a", 3)], (13, "b"), given=[(0, 0, 3)]), (3, None))
        self.assertEqual(would(late, [(1, "a", 3)], (40, "b")), (None, None))

    def test_no_look_of_anything(self):
        for thing in anything() + [(1, "a", 0), [1, "a"], (0, "a"), (41, "a"), (1, "z"), (True, "a"), (1,), ("a", 1)]:
            for course in [HOLD, JAMS]:
                self.assertTrue(equal_kinds(due(would, course, [], thing), (NoLook, thing)))
            if not (type(thing) is int and 1 <= thing <= 40):
                self.assertTrue(equal_kinds(due(would, JAMS, [], (thing, "a")), (NoLook, (thing, "a"))))
            if thing not in ("a", "b", "c"):
                self.assertTrue(equal_kinds(due(would, JAMS, [], (40, thing)), (NoLook, (40, thing))))
        told = [1, [2], {"k": [3]}]
        refused = due(would, LINE, [], told)
        told[1].append(4)
        self.assertEqual(refused, (NoLook, [1, [2], {"k": [3]}]))

    def test_behind_all_refusals_of_sightings_and_given_numbers(self):
        for course, sightings, look, given, found in [
                (LINE, None, None, None, (NoSight, -1)), (JAMS, [(3, "a", 0)], None, None, (Jams, 3)),
                (HOLD, [(1, "b", 0)], None, None, (NoSight, 0)),
                (HOLD, [(2, "b", 0)], None, None, (NoGiven, -1)), (LINE, [(13, "a", 0)], None, (), (TooMany, INPUTS)),
                (LINE, [(12, "a", 0)], None, (), (NoLook, None)), (JAMS, [(2, "a", 0)], (3, "z"), (), (NoLook, (3, "z"))),
                (JAMS, [(2, "a", 0)], (3, "a"), (), (Jams, 3)), (JAMS, [(2, "a", 0)], (40, "a"), (), (Jams, 3)),
                (HOLD, [(12, "a", 0)], (1, "b"), (), (NoLook, (1, "b"))), (LINE, [(12, "a", 0)], (1, "a"), (), (TooMany, MOST)),
                (CROSS, [], (2, "b"), (), (NoLook, (2, "b")))]:
            self.assertTrue(equal_kinds(due(would, course, sightings, look, given=given), found), (sightings, look))
        for leaves, (sightings, given) in LEAVES.items():
            self.assertEqual(due(would, HOLDS, sightings, (1, "a"), given=given), (TooMany, MOST) if leaves > MOST else None)


class Refused(unittest.TestCase):
    def test_as_trees_are(self):
        for course, sightings, given, found in [
                (LINE, None, None, (NoSight, -1)), (LINE, [(1, "a", 0)] * 9, (), (NoSight, -1)),
                (LINE, [(41, "a", 0)], (), (NoSight, 0)),
                (JAMS, [(1, "a", 0), (3, "c", 0)], None, (Jams, 3)), (HOLD, [(2, "b", 0), (1, "b", 0)], None, (NoSight, 1)),
                (HOLD, [(2, "b", 0)], None, (NoGiven, -1)), (HOLD, [(2, "b", 0)], [(0, 0, 1), (0, 0, 1)], (NoGiven, 1)),
                (LINE, [(13, "a", 0)], (), (TooMany, INPUTS)), (LINE, [(12, "a", 0)], (), (TooMany, MOST))]:
            self.assertTrue(equal_kinds(due(blame, course, sightings, given=given), found))
            found = None if found[0] is TooMany else found
            for thing in [None, ([], [], [])]:
                self.assertTrue(equal_kinds(due(shows_blame, course, sightings, thing, given=given), found))
        for thing in anything():
            if thing in ((), []):
                continue
            number = 0 if isinstance(thing, (list, tuple)) and len(thing) <= 8 else -1
            given = 0 if isinstance(thing, (list, tuple)) else -1
            for ask, more in [(blame, ()), (shows_blame, (None,)), (would, (None,))]:
                self.assertTrue(equal_kinds(due(ask, HOLD, thing, *more), (NoSight, number)))
                self.assertTrue(equal_kinds(due(ask, HOLD, [(1, "a", 0)], *more, given=thing), (NoGiven, given)))
                with self.assertRaises(TypeError):
                    ask(HOLD, [], *more, ())
