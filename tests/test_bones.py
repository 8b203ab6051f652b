import unittest

from holdgates.bones import beat_at, carried, carries, jam, kept, parted, round_of, shape
from holdgates.courses import Course
from holdgates.errors import Jams, NoLane, TooLong
from holdgates.webs import Web
from tests.helper import (Jam, anything, equal_kinds, hand_of, jam_at, luck_of, made_course, made_web, refusal,
                          round_of_600, unchanged)

FAR = 10 ** 60
# Jams at beat 2.
JAMS = Course(Web([("a", "x"), ("b", "x")], [("join", "a", "b", "c", 1)]))
# Its bones come round behind 600 beats, from beat 1 on.
LONG = Course(round_of_600(("lag", "c", "l", 3)))
LINE = Course(Web([("a", "x-")], [("wait", "a", "b", 1)]))

# Asks of one course, by a lane that it has.
ASKS = [lambda course, lane: round_of(course), lambda course, lane: carries(course, lane, 1),
        lambda course, lane: carries(course, lane, FAR), lambda course, lane: carried(course, lane, 0),
        lambda course, lane: kept(course, 0, 0), lambda course, lane: beat_at(course, lane, 0),
        lambda course, lane: shape(course, lane), lambda course, lane: parted(course, course, []),
        lambda course, lane: parted(course, course, [lane])]
LANE_ASKS = [lambda course, lane: carries(course, lane, 1), lambda course, lane: carried(course, lane, 1),
             lambda course, lane: beat_at(course, lane, 0), lambda course, lane: shape(course, lane),
             lambda course, lane: parted(course, course, ["a", lane, None]),
             lambda course, lane: parted(course, course, (lane,)), lambda course, lane: parted(course, LINE, [lane]),
             lambda course, lane: parted(LINE, course, ["b", lane])]


class ByHand:
    """All that bones tell, by 600 single beats of noughts."""

    def __init__(self, course):
        self.course = course
        self.last = max([0] + [lift[0] for lift in course.lifts()])
        hand = hand_of(course, lambda inlet, place: 0)
        self.rows, self.kept, fulls, self.jam = [], [hand.kept()], [], None
        common = course.web().common()
        fulls.append((hand.kept(), 0))
        while len(self.rows) < 600 and self.jam is None:
            try:
                self.rows.append(hand.go())
                self.kept.append(hand.kept())
                fulls.append((hand.kept(), hand.beat % common))
            except Jam as told:
                self.jam = told.beat
        self.round = None
        if self.jam is None:
            self.round = self.find(fulls)

    def find(self, fulls):
        for first in range(self.last, 601):
            for later in range(first + 1, 601):
                if fulls[first] == fulls[later]:
                    return first, later - first
        return None

    def due(self):
        """The refusal that is due, or None."""
        if self.jam is not None:
            return Jams, self.jam
        return None if self.round else (TooLong, 600)

    def like(self, beat):
        """The beat among the first ones that is as this one."""
        first, many = self.round
        while beat > first + many:
            beat -= (beat - first - 1) // many * many
        return beat

    def signs(self, lane, beats):
        place = self.course.web().lanes().index(lane)
        return [self.rows[self.like(beat) - 1][place] is not None for beat in range(1, beats + 1)]


class Bones(unittest.TestCase):
    def test_by_hand(self):
        luck, dues = luck_of(21), {None: 0, Jams: 0, TooLong: 0}
        for _ in range(150):
            web = made_web(luck)
            course = made_course(luck, web, luck.choice([[0], [0, 1, 2, 3, 7], [0, 11, 40, 90], [0, 599, 600, 601]]))
            hand = ByHand(course)
            due = hand.due()
            dues[due and due[0]] += 1
            lane = luck.choice(web.lanes())
            if due:
                for ask in ASKS:
                    if len(web) or ask is not ASKS[4]:
                        self.assertEqual(refusal(ask, course, lane), due)
                if due[0] is TooLong:
                    self.assertEqual(refusal(jam, course), due)
                else:
                    self.assertTrue(equal_kinds(jam(course), due[1]))
                continue
            self.assertIsNone(jam(course))
            self.assertTrue(equal_kinds(round_of(course), hand.round))
            self.check_lane(course, hand, lane)
            self.check_kept(course, hand)
        self.assertTrue(min(dues.values()) > 5, dues)

    def check_lane(self, course, hand, lane):
        first, many = hand.round
        beats = [0, 1, 2, first - 1, first, first + 1, first + many - 1, first + many, first + many + 1,
                 first + 2 * many, first + 3 * many + 1]
        signs = hand.signs(lane, beats[-1] + 2)
        for beat in [beat for beat in beats if beat >= 0]:
            if beat:
                self.assertIs(carries(course, lane, beat), signs[beat - 1])
            self.assertTrue(equal_kinds(carried(course, lane, beat), sum(signs[:beat])))
        went = [beat for beat, sign in enumerate(signs, 1) if sign]
        for number in {0, 1, len(went) // 2, len(went) - 2, len(went) - 1}:
            if 0 <= number < len(went):
                self.assertTrue(equal_kinds(beat_at(course, lane, number), went[number]))
        turn = sum(signs[first:first + many])
        for beat in [FAR, FAR - 1]:
            turns, rest = divmod(beat - first, many)
            self.assertEqual(carried(course, lane, beat), sum(signs[:first + rest]) + turns * turn)
            self.assertIs(carries(course, lane, beat), signs[hand.like(beat) - 1])
        if turn == 0:
            self.assertIsNone(beat_at(course, lane, len(went)))
            self.assertIsNone(beat_at(course, lane, FAR))
        else:
            beat = beat_at(course, lane, FAR)
            self.assertIs(carries(course, lane, beat), True)
            self.assertEqual(carried(course, lane, beat), FAR + 1)
            self.assertEqual(carried(course, lane, beat - 1), FAR)

    def check_kept(self, course, hand):
        first, many = hand.round
        for at, gate in enumerate(course.web().gates()):
            for beat in [0, 1, first, first + 1, first + many, first + many + 1, first + 5 * many, FAR]:
                part = hand.kept[beat if beat <= 600 and beat <= first + many else hand.like(beat)][at]
                due = 0 if gate[0] in ("deal", "cross") else len([token for token in part if token is not None])
                self.assertTrue(equal_kinds(kept(course, at, beat), due))

    def test_a_line(self):
        for rhythm, told in [("x", ("", "x")), ("x-", ("", "x-")), ("-x-x", ("", "-x")), ("xx-x--", ("", "xx-x--"))]:
            course = Course(Web([("a", rhythm)]))
            self.assertTrue(equal_kinds(round_of(course=course), (0, len(rhythm))))
            self.assertIsNone(jam(course=course))
            self.assertTrue(equal_kinds(shape(course=course, lane="a"), told))
        self.assertIs(carries(course=LINE, lane="b", beat=3), True)
        self.assertEqual(carried(course=LINE, lane="b", beat=3), 1)
        self.assertEqual(kept(course=LINE, gate=0, beat=3), 1)
        self.assertEqual(beat_at(course=LINE, lane="b", number=1), 5)
        self.assertTrue(equal_kinds(round_of(LINE), (1, 2)))

    def test_lanes_that_never_carry(self):
        course = Course(Web([("a", "xx-")], [("deal", "a", "b", "c", "l"), ("hold", "b", "d", 3, 1)]))
        self.assertIs(carries(course, "c", FAR), False)
        self.assertEqual(carried(course, "c", FAR), 0)
        self.assertIsNone(beat_at(course, "c", 0))
        self.assertEqual(shape(course, "c"), ("", "-"))
        self.assertEqual(shape(course, "d"), ("----", "x-x"))

    def test_lanes_that_stop_for_a_while(self):
        # Let down behind beat 3 the wait keeps twelve ahead of the next that goes on.
        course = Course(Web([("a", "x")], [("wait", "a", "b", 12)]), lifts=[(0, 0, "up"), (3, 0, "down")])
        self.assertEqual([carries(course, "b", beat) for beat in range(1, 18)], [True] * 3 + [False] * 12 + [True] * 2)
        self.assertEqual(beat_at(course, "b", 2), 3)
        self.assertEqual(beat_at(course, "b", 3), 16)
        self.assertEqual(shape(course, "b"), ("xxx" + "-" * 12, "x"))
        self.assertEqual(round_of(course), (15, 1))

    def test_beat_0(self):
        self.assertIs(carries(LINE, "a", 0), False)
        self.assertEqual(carried(LINE, "a", 0), 0)
        self.assertEqual(kept(LINE, 0, 0), 0)

    def test_kept_of_each_gate(self):
        course = Course(Web([("a", "x--"), ("b", "x--")], [
            ("hold", "a", "c", 2, 1), ("wait", "b", "d", 2), ("lag", "c", "e", 3), ("deal", "d", "f", "g", "lrl"),
            ("join", "e", "f", "h", 4), ("cross", "g", "h", "i", "j")]))
        for beat, due in [(0, [0, 0, 0, 0, 0, 0]), (1, [1, 1, 0, 0, 0, 0]), (3, [1, 1, 0, 0, 0, 0]),
                          (4, [2, 2, 0, 0, 0, 0]), (6, [2, 2, 0, 0, 0, 0]), (7, [2, 2, 1, 0, 0, 0]),
                          (9, [2, 2, 1, 0, 0, 0]), (10, [2, 2, 1, 0, 0, 0]), (13, [2, 2, 1, 0, 1, 0]),
                          (14, [2, 2, 1, 0, 0, 0])]:
            self.assertEqual([kept(course, gate, beat) for gate in range(6)], due)


class Rounds(unittest.TestCase):
    def test_just_600_beats(self):
        course = Course(round_of_600())
        self.assertEqual(round_of(course), (0, 600))
        self.assertIsNone(jam(course))
        self.assertIs(carries(course, "f", 600 * 10 ** 40 + 1), True)
        self.assertEqual(carried(course, "f", 600 * 10 ** 40), 24 * 10 ** 40)
        self.assertEqual(shape(course, "f"), ("", "x" + "-" * 24))
        self.assertEqual(shape(course, "c"), ("", "x--"))
        self.assertEqual(shape(course, "j"), ("", "x" + "-" * 7))

    def test_601_beats(self):
        self.assertEqual(refusal(jam, LONG), (TooLong, 600))
        for ask in ASKS:
            self.assertEqual(refusal(ask, LONG, "a"), (TooLong, 600))

    def test_599_and_one(self):
        # Behind 599 lifted beats the first stand is there again, each beat.
        web = Web([("a", "x")], [("wait", "a", "b", 3)])
        for beat, due in [(598, (598, 1)), (599, (599, 1)), (600, None), (601, None), (FAR, None)]:
            course = Course(web, lifts=[(0, 0, "up"), (beat, 0, "up")])
            if due:
                self.assertEqual(round_of(course), due)
                self.assertIsNone(jam(course))
            else:
                self.assertEqual(refusal(round_of, course), (TooLong, 600))
                self.assertEqual(refusal(jam, course), (TooLong, 600))
                self.assertEqual(refusal(carries, course, "b", 1), (TooLong, 600))

    def test_from_the_last_lift_on(self):
        web = Web([("a", "x-")], [("hold", "a", "b", 0, 0)])
        self.assertEqual(round_of(Course(web)), (0, 2))
        self.assertEqual(round_of(Course(web, lifts=[(7, 0, "up")])), (7, 2))
        self.assertEqual(round_of(Course(web, lifts=[(7, 0, "up"), (12, 0, "down")])), (12, 2))
        self.assertEqual(shape(Course(web, lifts=[(7, 0, "up")]), "b"), ("", "x-"))

    def test_jams_at_600_and_601(self):
        self.assertTrue(equal_kinds(jam(Course(jam_at(600))), 600))
        for ask in ASKS:
            self.assertEqual(refusal(ask, Course(jam_at(600)), "a"), (Jams, 600))
        self.assertEqual(refusal(jam, Course(jam_at(601))), (TooLong, 600))
        for ask in ASKS:
            self.assertEqual(refusal(ask, Course(jam_at(601)), "a"), (TooLong, 600))

    def test_jams_ahead_of_too_long(self):
        web = Web([("a", "x"), ("b", "x")], [("join", "a", "b", "c", 3), ("wait", "c", "d", 1)])
        course = Course(web, lifts=[(FAR, 1, "up")])
        self.assertEqual(jam(course), 4)
        for ask in ASKS:
            self.assertEqual(refusal(ask, course, "a"), (Jams, 4))

    def test_lifts_make_it_jam_or_not(self):
        web = Web([("a", "x"), ("b", "x")], [("wait", "a", "c", 3), ("join", "c", "b", "d", 2)])
        self.assertEqual(jam(Course(web)), 6)
        self.assertEqual(jam(Course(web, lifts=[(0, 0, "up")])), 3)
        self.assertEqual(jam(Course(web, lifts=[(3, 0, "up"), (4, 0, "down")])), 6)
        self.assertEqual(jam(Course(web, lifts=[(1, 0, "up"), (2, 0, "down")])), 6)


class Shapes(unittest.TestCase):
    def test_shortest_ahead_then_shortest_again(self):
        luck, seen = luck_of(22), 0
        for _ in range(20 * 120):
            if seen == 120:
                break
            course = made_course(luck, made_web(luck), list(range(12)))
            hand = ByHand(course)
            if hand.due() or sum(hand.round) > 70:
                continue
            seen += 1
            for lane in course.web().lanes():
                first, many = hand.round
                text = "".join("x" if sign else "-" for sign in hand.signs(lane, 3 * (first + many)))
                self.assertTrue(equal_kinds(unchanged(shape, course, lane), self.shortest(text, first, many)))
        self.assertEqual(seen, 120)

    def shortest(self, text, first, many):
        for ahead in range(first + 1):
            for again in range(1, many + 1):
                if all(text[at] == text[at + again] for at in range(ahead, first + many)):
                    return text[:ahead], text[ahead:ahead + again]

    def test_ahead_and_again(self):
        for gates, lane, told in [
                ([("lag", "a", "b", 2)], "b", ("--", "x")), ([("wait", "a", "b", 2)], "b", ("--", "x")),
                ([("deal", "a", "b", "c", "lrr")], "b", ("", "x--")), ([("deal", "a", "b", "c", "lrr")], "c", ("", "-xx")),
                ([("deal", "a", "b", "c", "lrlr")], "c", ("", "-x")),
                ([("wait", "a", "b", 1), ("deal", "b", "c", "d", "rl")], "c", ("-", "-x")),
                ([("wait", "a", "b", 1), ("deal", "b", "c", "d", "rl")], "d", ("", "-x"))]:
            self.assertEqual(shape(Course(Web([("a", "x")], gates)), lane), told)


class Parted(unittest.TestCase):
    def test_the_first_beat_and_of_it_the_first_lane(self):
        one = Course(Web([("a", "x"), ("b", "xx-")], [("wait", "a", "c", 2), ("lag", "b", "d", 2)]))
        other = Course(Web([("b", "xx-"), ("a", "x")], [("lag", "b", "d", 3), ("wait", "a", "c", 3)]))
        self.assertTrue(equal_kinds(parted(one, other, ["a", "b", "c", "d"]), (3, "c")))
        self.assertTrue(equal_kinds(parted(one, other, ("d", "c")), (3, "d")))
        self.assertTrue(equal_kinds(parted(course=one, other=other, lanes=["d", "a"]), (3, "d")))
        self.assertIsNone(parted(one, other, ["b", "a"]))
        self.assertIsNone(parted(one, other, []))
        self.assertIsNone(parted(one, one, ["a", "b", "c", "d"]))

    def test_the_first_beat_ahead_of_the_first_lane(self):
        one = Course(Web([("a", "x")], [("deal", "a", "b", "c", "lllrr")]))
        other = Course(Web([("a", "x")], [("deal", "a", "b", "d", "lllr"), ("wait", "d", "c", 0)]))
        self.assertEqual(parted(one, other, ["b", "c"]), (5, "b"))
        self.assertEqual(parted(one, other, ["c", "b"]), (5, "c"))
        two = Course(Web([("a", "x")], [("deal", "a", "b", "d", "lllrr"), ("lag", "d", "c", 1)]))
        self.assertEqual(parted(one, two, ["b", "c"]), (4, "c"))

    def test_behind_the_first_round_of_either(self):
        one = Course(Web([("a", "x")], [("deal", "a", "b", "c", "rrrrrl"), ("deal", "b", "d", "e", "rrrl")]))
        other = Course(Web([("a", "x")], [("deal", "a", "b", "c", "rrrrrl"), ("deal", "b", "d", "e", "rrrlrl")]))
        self.assertEqual(round_of(one), (0, 24))
        self.assertEqual(round_of(other), (0, 36))
        self.assertEqual(parted(one, other, ["d"]), (36, "d"))
        self.assertEqual(parted(other, one, ["a", "c", "e", "d"]), (36, "e"))

    def test_behind_both_rounds(self):
        # Rounds of 5 and 6 beats that are alike up to beat 9; of 4 and 6, up to beat 7.
        for text, other, due in [("rrrrl", "rrrrlr", 10), ("rlrr", "rlrrrl", 8), ("llllr", "llllrl", 10)]:
            one = Course(Web([("a", "x")], [("deal", "a", "b", "c", text)]))
            two = Course(Web([("a", "x")], [("deal", "a", "b", "c", other)]))
            self.assertEqual(parted(one, two, ["b"]), (due, "b"))
            self.assertEqual(parted(two, one, ["b"]), (due, "b"))

    def test_by_hand(self):
        luck, told = luck_of(23), 0
        for _ in range(20 * 60):
            if told == 60:
                break
            web = made_web(luck, luck.randint(1, 4))
            one = made_course(luck, web, [0, 1, 2, 30])
            other = made_course(luck, web, [0, 1, 2, 30])
            hands = ByHand(one), ByHand(other)
            if hands[0].due() or hands[1].due():
                due = hands[0].due() or hands[1].due()
                self.assertEqual(refusal(parted, one, other, web.lanes()), due)
                continue
            told += 1
            lanes = luck.sample(web.lanes(), luck.randint(1, len(web.lanes())))
            beats = max(hands[0].round[0], hands[1].round[0]) + hands[0].round[1] * hands[1].round[1]
            if beats > 4000:
                continue
            signs = [[hand.signs(lane, beats) for lane in lanes] for hand in hands]
            apart = [(beat + 1, lane) for beat in range(beats) for at, lane in enumerate(lanes)
                     if signs[0][at][beat] != signs[1][at][beat]]
            self.assertEqual(unchanged(parted, one, other, lanes), apart[0] if apart else None)
        self.assertEqual(told, 60)

    def test_lifts_alone(self):
        web = Web([("a", "x")], [("wait", "a", "b", 1), ("deal", "b", "c", "d", "lr")])
        lifted = Course(web, lifts=[(0, 0, "up"), (1, 0, "down")])
        self.assertEqual(parted(lifted, Course(web), ["c"]), (1, "c"))
        self.assertIsNone(parted(Course(web, lifts=[(499, 0, "up")]), Course(web), ["a", "b", "c"]))

    def test_late_by_a_lift(self):
        # e carries at each 25th beat from 1 on, f first behind twelve of these: at beat 301.
        web = Web([("a", "x")], [
            ("deal", "a", "b", "c", "lrrrr"), ("deal", "b", "e", "d", "lrrrr"), ("wait", "e", "f", 12)])
        self.assertEqual(beat_at(Course(web), "f", 0), 301)
        lifted = Course(web, lifts=[(250, 2, "up"), (270, 2, "down")])
        self.assertEqual(parted(Course(web), lifted, ["e", "f"]), (251, "f"))
        again = Course(web, lifts=[(400, 2, "up"), (470, 2, "down")])
        self.assertIsNone(parted(Course(web), again, ["e", "f"]))


class Refused(unittest.TestCase):
    def test_no_lane_of_anything_ahead_of_all_else(self):
        for course in [LINE, JAMS, LONG]:
            for thing in anything() + ["z", "zz"]:
                if isinstance(thing, str) and thing in ("a", "b"):
                    continue
                for ask in LANE_ASKS:
                    with self.assertRaises(NoLane) as caught:
                        ask(course, thing)
                    self.assertTrue(equal_kinds(caught.exception.lane, thing))

    def test_all_lanes_in_the_first_course_ahead(self):
        one = Course(Web([("a", "x"), ("b", "x"), ("c", "x")]))
        other = Course(Web([("a", "x"), ("d", "x")]))
        for lanes, due in [(["b", "z"], "z"), (["d", "b"], "d"), (["a", "b", "c"], "b"), (["c", "b"], "c")]:
            with self.assertRaises(NoLane) as caught:
                parted(one, other, lanes)
            self.assertEqual(caught.exception.lane, due)

    def test_the_first_course_refused_ahead_of_the_other(self):
        sooner = Course(Web([("a", "x"), ("b", "x")], [("join", "a", "b", "c", 0)]))
        for one, other, due in [(JAMS, sooner, (Jams, 2)), (sooner, JAMS, (Jams, 1)), (LONG, JAMS, (TooLong, 600)),
                                (JAMS, LONG, (Jams, 2)), (LINE, JAMS, (Jams, 2)), (JAMS, LINE, (Jams, 2)),
                                (LINE, LONG, (TooLong, 600))]:
            self.assertEqual(refusal(parted, one, other, ["a"]), due)
            self.assertEqual(refusal(parted, one, other, []), due)
