import itertools
import unittest

from holdgates.bones import jam
from holdgates.bounds import INPUTS, MOST
from holdgates.courses import Course
from holdgates.errors import Jams, NoBeat, NoLane, NoToken, TooMany
from holdgates.feeds import times_by
from holdgates.kin import mirrored
from holdgates.runs import run
from holdgates.terms import by_term, can_come, hangs_on, term
from holdgates.webs import Web
from tests.helper import (Jam, anything, by_feed, equal_kinds, hand_of, luck_of, made_course, made_web, refusal,
                          unchanged)

LINE = Course(Web([("a", "x")]))
HOLD = Course(Web([("a", "x")], [("hold", "a", "b", 3, 1)]))
JAMS = Course(Web([("a", "x"), ("b", "x")], [("join", "a", "b", "c", 3)]))
CROSS = Course(Web([("a", "x"), ("b", "x")], [("cross", "a", "b", "c", "d")]))


def made_number(luck, course, beat):
    """A feed by luck, without end up to a beat."""
    return tuple(tuple(luck.randint(-9, 9) for _ in range(many)) for many in times_by(course.web(), beat))


def shown(course, lane, beat, feed):
    """What a lane carries at a beat, by hand."""
    hand = hand_of(course, by_feed(feed))
    for _ in range(beat - 1):
        hand.go()
    return hand.go()[course.web().lanes().index(lane)]


def by_all(course, lane, beat, inputs):
    """(highs, lows) by all noughts and ones of the inputs, set by set."""
    times = times_by(course.web(), beat)

    def brings(ones):
        feed = tuple(tuple(int((inlet, at) in ones) for at in range(many)) for inlet, many in enumerate(times))
        return shown(course, lane, beat, feed)
    sets = [subset for many in range(len(inputs) + 1) for subset in itertools.combinations(inputs, many)]
    highs, lows = [], []
    for subset in sets:
        if brings(set(subset)) == 1 and not any(set(high) <= set(subset) for high in highs):
            highs.append(subset)
        if brings(set(inputs) - set(subset)) == 0 and not any(set(low) <= set(subset) for low in lows):
            lows.append(subset)
    return sorted(highs), sorted(lows)


class HangsOn(unittest.TestCase):
    def test_inputs_of_inlets_from_which_it_can_be_come_to(self):
        course = Course(Web([("a", "x"), ("b", "x-"), ("c", "--x")], [
            ("cross", "a", "b", "d", "e"), ("wait", "c", "f", 0), ("cross", "e", "f", "g", "h"), ("deal", "d", "i", "j", "l")]))
        for lane, beat, due in [
                ("a", 3, [(0, 0), (0, 1), (0, 2)]), ("b", 3, [(1, 0), (1, 1)]), ("c", 3, [(2, 0)]),
                ("d", 2, [(0, 0), (0, 1), (1, 0)]), ("i", 3, [(0, 0), (0, 1), (0, 2), (1, 0), (1, 1)]),
                ("h", 3, [(0, 0), (0, 1), (0, 2), (1, 0), (1, 1), (2, 0)]), ("f", 6, [(2, 0), (2, 1)])]:
            self.assertTrue(equal_kinds(hangs_on(course=course, lane=lane, beat=beat), due))
        self.assertEqual(refusal(hangs_on, course, "i", 13), (TooMany, INPUTS))

    def test_whether_or_not_a_token_ever_goes_that_way(self):
        # b never comes to e, and c is fed by nothing that d takes; by gates it can be come to from both.
        course = Course(Web([("a", "x"), ("b", "x")], [("deal", "b", "c", "d", "l"), ("cross", "a", "d", "e", "f")]))
        self.assertEqual(hangs_on(course, "e", 2), [(0, 0), (0, 1), (1, 0), (1, 1)])
        self.assertEqual(term(course, "e", 2), ([((0, 1),)], [((0, 1),)]))

    def test_what_comes_later_is_no_input(self):
        lag = Course(Web([("a", "x")], [("lag", "a", "b", 3)]))
        self.assertEqual(hangs_on(lag, "b", 5), [(0, 0), (0, 1), (0, 2), (0, 3), (0, 4)])
        self.assertEqual(term(lag, "b", 5), ([((0, 1),)], [((0, 1),)]))


class Term(unittest.TestCase):
    def test_the_least_and_the_greatest(self):
        pair = [(0, 0), (1, 0)]
        self.assertTrue(equal_kinds(term(course=CROSS, lane="c", beat=1), ([tuple(pair)], [(pair[0],), (pair[1],)])))
        self.assertTrue(equal_kinds(term(CROSS, "d", 1), ([(pair[0],), (pair[1],)], [tuple(pair)])))
        self.assertTrue(equal_kinds(term(LINE, "a", 4), ([((0, 3),)], [((0, 3),)])))

    def test_by_its_rank(self):
        # Of many numbers the one by rank r, from 0: r + 1 are it or less, many - r it or more.
        for most in range(1, 6):
            for rank in range(most + 1):
                course = Course(Web([("a", "x")], [("hold", "a", "b", most, rank)]))
                inputs = [(0, at) for at in range(most + 1)]
                highs, lows = term(course, "b", most + 1)
                self.assertEqual(highs, list(itertools.combinations(inputs, most + 1 - rank)))
                self.assertEqual(lows, list(itertools.combinations(inputs, rank + 1)))

    def test_by_all_noughts_and_ones(self):
        luck, many = luck_of(161), 0
        for _ in range(900):
            course = made_course(luck, made_web(luck, most=6), [0, 1, 2, 4], most=3)
            lane, beat = luck.choice(course.web().lanes()), luck.randint(1, 12)
            try:
                inputs = hangs_on(course, lane, beat)
            except (Jams, NoToken, TooMany):
                continue
            if len(inputs) > 7:
                continue
            if len(course.web()) == 0 and luck.random() < 0.8:
                continue
            many += 1
            self.assertTrue(equal_kinds(inputs, [(inlet, at) for inlet in course.web().sources(lane)
                                                 for at in range(times_by(course.web(), beat)[inlet])]))
            told = unchanged(term, course, lane, beat)
            self.assertTrue(equal_kinds(told, by_all(course, lane, beat, inputs)))
        self.assertTrue(many > 100, many)

    def test_runs_of_other_numbers(self):
        luck, many = luck_of(162), 0
        for _ in range(2500):
            course = made_course(luck, made_web(luck), [0, 1, 2, 4, 9], most=4)
            lane, beat = luck.choice(course.web().outlets()), luck.randint(1, 40)
            try:
                highs, lows = term(course, lane, beat)
            except (Jams, NoToken, TooMany):
                continue
            if len(highs) == 1 and luck.random() < 0.8:
                continue
            many += 1
            for _ in range(6):
                feed = made_number(luck, course, beat)
                number = run(course, feed, beat)[-1][course.web().lanes().index(lane)]
                self.assertTrue(equal_kinds(by_term(highs, feed), number))
                self.assertEqual(min(max(feed[inlet][at] for inlet, at in low) for low in lows), number)
        self.assertTrue(many > 60, many)

    def test_what_it_does_not_hang_on_may_be_anything(self):
        course = Course(Web([("a", "x"), ("b", "x")], [("hold", "a", "c", 1, 0), ("wait", "b", "d", 2)]))
        highs, lows = term(course, "c", 3)
        self.assertEqual(can_come(highs), [(0, 0), (0, 1), (0, 2)])
        for feed in [((3, 1, 2), (9, 9, 9)), ((3, 1, 2), (0, 0, 0))]:
            self.assertEqual(by_term(highs, feed), run(course, feed, 3)[-1][2])

    def test_lifts(self):
        web = Web([("a", "x")], [("hold", "a", "b", 2, 0)])
        self.assertEqual(term(Course(web, lifts=[(3, 0, "up")]), "b", 4), ([((0, 3),)], [((0, 3),)]))
        self.assertEqual(refusal_of(Course(web, lifts=[(3, 0, "up")]), "b", 2), NoToken)
        self.assertEqual(term(Course(web, lifts=[(4, 0, "up")]), "b", 4), term(Course(web), "b", 4))
        self.assertEqual(term(Course(web, lifts=[(0, 0, "up"), (1, 0, "down")]), "b", 1), ([((0, 0),)], [((0, 0),)]))
        crossed = Course(CROSS.web(), lifts=[(0, 0, "up")])
        self.assertEqual(term(crossed, "c", 1), ([((0, 0),)], [((0, 0),)]))

    def test_beats_1_and_40(self):
        self.assertEqual(term(LINE, "a", 1), ([((0, 0),)], [((0, 0),)]))
        late = Course(Web([("a", "---x")], [("hold", "a", "b", 2, 1)]))
        highs, lows = term(late, "b", 40)
        self.assertEqual(len(hangs_on(late, "b", 40)), 10)
        self.assertEqual(len(can_come(highs)), 10)
        feed = (tuple(range(10)),)
        self.assertEqual(by_term(highs, feed), run(late, feed, 40)[-1][1])

    def test_twelve_inputs_and_thirteen(self):
        last = ([((0, 11),)], [((0, 11),)])
        self.assertEqual(len(hangs_on(LINE, "a", 12)), 12)
        self.assertEqual(term(LINE, "a", 12), last)
        self.assertEqual(refusal(hangs_on, LINE, "a", 13), (TooMany, INPUTS))
        self.assertEqual(refusal(term, LINE, "a", 13), (TooMany, INPUTS))
        two = Course(Web([("a", "x"), ("b", "x--")], [("wait", "a", "c", 2)]))
        self.assertEqual(len(hangs_on(two, "c", 12)), 12)
        self.assertEqual(len(hangs_on(two, "b", 34)), 12)
        self.assertEqual(refusal(hangs_on, two, "b", 37), (TooMany, INPUTS))
        both = Course(Web([("a", "x"), ("b", "x--")], [("cross", "a", "b", "c", "d")]))
        self.assertEqual(len(hangs_on(both, "c", 9)), 12)
        self.assertEqual(refusal(hangs_on, both, "c", 10), (TooMany, INPUTS))

    def test_most_sets_and_more(self):
        # Of ten numbers those by rank 4 need six: 210 sets. Of nine by rank 4 there are 126, and 126 lows.
        for many, rank, due in [(9, 4, None), (9, 3, None), (10, 2, None), (10, 3, (TooMany, MOST)), (10, 6, (TooMany, MOST)),
                                (10, 7, None), (10, 4, (TooMany, MOST)), (11, 7, (TooMany, MOST)), (12, 0, None)]:
            course = Course(Web([("a", "x")], [("hold", "a", "b", many - 1, rank)]))
            self.assertEqual(refusal(term, course, "b", many), due, (many, rank))
            self.assertEqual(len(hangs_on(course, "b", many)), many)

    def test_just_200_sets(self):
        web = Web([("a", "x--"), ("b", "xx--")], [
            ("hold", "b", "d", 3, 3), ("hold", "a", "c", 1, 1), ("hold", "c", "e", 3, 0), ("cross", "d", "e", "f", "g")])
        highs, lows = term(Course(web), "g", 13)
        self.assertEqual((len(highs), len(lows)), (21, 200))
        other, others = term(Course(mirrored(web)), "g", 13)
        self.assertEqual((other, others), (lows, highs))

    def test_least_sets_that_meet(self):
        luck = luck_of(163)
        for _ in range(150):
            course = made_course(luck, made_web(luck, luck.randint(0, 4)), [0, 3])
            lane, beat = luck.choice(course.web().lanes()), luck.randint(1, 9)
            if refusal_of(course, lane, beat):
                continue
            highs, lows = term(course, lane, beat)
            for sets in (highs, lows):
                self.assertEqual(sets, sorted(set(sets)))
                self.assertTrue(sets and all(part == tuple(sorted(set(part))) and part for part in sets))
                for one, other in itertools.permutations(sets, 2):
                    self.assertFalse(set(one) <= set(other))
            self.assertTrue(all(set(high) & set(low) for high in highs for low in lows))


def refusal_of(course, lane, beat):
    """The class of what is refused, or None."""
    try:
        term(course, lane, beat)
    except (NoLane, NoBeat, Jams, NoToken, TooMany) as due:
        return type(due)
    return None


class ByTerm(unittest.TestCase):
    def test_the_greatest_of_the_least(self):
        highs = [((0, 0), (0, 1)), ((0, 2), (1, 0))]
        for feed, due in [(((3, 4, 9), (1,)), 3), (((3, 1, 9), (7,)), 7), (((5, 5, 5), (5,)), 5), (((-3, -4, -9), (0,)), -4)]:
            self.assertTrue(equal_kinds(unchanged(by_term, highs, feed), due))
        self.assertEqual(by_term(highs=highs, feed=[(3, 4, 9), (1,)]), 3)
        self.assertEqual(by_term([((0, 1),)], ((5, -10 ** 12),)), -10 ** 12)

    def test_can_come(self):
        highs = [((0, 0), (0, 1)), ((0, 1), (1, 0)), ((0, 10), (2, 3))]
        self.assertTrue(equal_kinds(unchanged(can_come, highs), [(0, 0), (0, 1), (0, 10), (1, 0), (2, 3)]))
        self.assertEqual(can_come(highs=[((1, 1),)]), [(1, 1)])

    def test_of_unlike_numbers_just_these_can_come(self):
        luck, many = luck_of(164), 0
        for _ in range(600):
            course = made_course(luck, made_web(luck, luck.randint(1, 6)), [0, 1, 4])
            lane, beat = luck.choice(course.web().outlets()), luck.randint(1, 9)
            if refusal_of(course, lane, beat):
                continue
            inputs = hangs_on(course, lane, beat)
            if not 2 <= len(inputs) <= 5:
                continue
            many += 1
            highs, lows = term(course, lane, beat)
            came = set()
            for order in itertools.permutations(range(len(inputs))):
                table = dict(zip(inputs, order))
                feed = tuple(tuple(table.get((inlet, at), 0) for at in range(times))
                             for inlet, times in enumerate(times_by(course.web(), beat)))
                number = run(course, feed, beat)[-1][course.web().lanes().index(lane)]
                came.add(inputs[order.index(number)])
            self.assertEqual(can_come(highs), sorted(came))
            self.assertEqual(can_come(lows), sorted(came))
        self.assertTrue(many > 40, many)


class Refused(unittest.TestCase):
    def raised(self, kind, *told):
        found = []
        for ask in (hangs_on, term):
            with self.assertRaises(kind) as caught:
                ask(*told)
            self.assertIs(type(caught.exception), kind)
            found.append(list(vars(caught.exception).values()))
        self.assertTrue(equal_kinds(*found))
        return found[0]

    def test_no_lane_of_anything_ahead_of_all(self):
        for thing in anything() + ["zz"]:
            if isinstance(thing, str) and thing in ("a", "b", "c"):
                continue
            for course in [HOLD, JAMS]:
                for beat in [1, 5, 0, 41, None, "a"]:
                    self.assertTrue(equal_kinds(self.raised(NoLane, course, thing, beat), [thing]))

    def test_no_beat_of_anything_ahead_of_jams(self):
        for thing in anything() + [-1, 41, 40.0]:
            if type(thing) is int and 1 <= thing <= 40:
                continue
            for course, lane in [(HOLD, "b"), (JAMS, "a"), (HOLD, "a")]:
                self.assertTrue(equal_kinds(self.raised(NoBeat, course, lane, thing), [thing]))

    def test_jams_by_that_beat_ahead_of_no_token(self):
        # Jams at beat 4, by which d carries nothing.
        more = Course(Web([("a", "x"), ("b", "x")], [("join", "a", "b", "c", 3), ("wait", "c", "d", 9)]))
        self.assertEqual(jam(more), 4)
        for beat in range(1, 4):
            self.assertEqual(self.raised(NoToken, more, "d", beat), ["d"])
            self.assertEqual(len(hangs_on(more, "c", beat)), 2 * beat)
        for beat in [4, 5, 12, 13, 40]:
            for lane in "abcd":
                self.assertTrue(equal_kinds(self.raised(Jams, more, lane, beat), [4]))
        lifted = Course(Web([("a", "x"), ("b", "x")], [("wait", "a", "c", 3), ("join", "c", "b", "d", 2)]), lifts=[(4, 0, "up")])
        self.assertEqual(self.raised(Jams, lifted, "a", 40), [jam(lifted)])

    def test_no_token_ahead_of_too_many(self):
        odd = Course(Web([("a", "x"), ("b", "x-")], [("deal", "a", "c", "d", "l"), ("lag", "b", "e", 5)]))
        for beat in [1, 13, 40]:
            self.assertEqual(self.raised(NoToken, odd, "d", beat), ["d"])
        self.assertEqual(self.raised(NoToken, odd, "b", 40), ["b"])
        self.assertEqual(self.raised(NoToken, odd, "e", 4), ["e"])
        self.assertEqual(hangs_on(odd, "e", 6), [(1, 0), (1, 1), (1, 2)])
        self.assertEqual(self.raised(TooMany, odd, "c", 13), [INPUTS])

    def test_a_jam_just_behind(self):
        self.assertEqual(hangs_on(JAMS, "c", 3), [(0, 0), (0, 1), (0, 2), (1, 0), (1, 1), (1, 2)])
        self.assertEqual(self.raised(Jams, JAMS, "c", 4), [4])

    def test_just_where_it_carries(self):
        luck = luck_of(165)
        for _ in range(150):
            course = made_course(luck, made_web(luck), [0, 2, 7])
            lane, beat = luck.choice(course.web().lanes()), luck.randint(1, 40)
            hand, due = hand_of(course, lambda inlet, place: 0), None
            try:
                for _ in range(beat):
                    row = hand.go()
                if row[course.web().lanes().index(lane)] is None:
                    due = NoToken
            except Jam:
                due = Jams
            told = refusal_of(course, lane, beat)
            self.assertIn(told, (due, TooMany) if due is None else (due,))
