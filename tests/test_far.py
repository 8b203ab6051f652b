import unittest

from holdgates.bones import beat_at
from holdgates.courses import Course
from holdgates.errors import Jams, NoLane, NoRounds, TooLong
from holdgates.far import far_carried, far_nth, far_parted, far_round, far_stand, is_rounds
from holdgates.names import times_of
from holdgates.runs import run
from holdgates.stands import go_on, is_stand, stand
from holdgates.webs import Web
from tests.helper import (Jam, anything, by_rounds, equal_kinds, hand_of, jam_at, luck_of, made_course, made_rounds,
                          made_web, refusal, round_of_600, unchanged)

FAR = 10 ** 60
MOST = 10 ** 12
ONE = Web([("a", "x")])
TWO = Web([("a", "x-"), ("b", "x")], [("wait", "a", "c", 1)])
# 25 beats by a, 8 by b, 3 by c: 600 together.
SLOW = Web([("a", "x----"), ("b", "x"), ("c", "x")])
ROUND_600 = (((), (1, 2, 3, 4, 5)), ((), (1, 2, 3, 4, 5, 6, 7, 8)), ((), (1, 2, 3)))
LATER_600 = (((), (1, 2, 3, 4, 5)), ((), (1, 2, 3, 4, 5, 6, 7, 8)), ((9,), (1, 2, 3)))
LONG = (((), (1, 2, 3, 4, 5)), ((), (1, 2, 3, 4, 5, 6, 7, 8)), ((), (1, 2, 3, 4, 5, 6, 7)))

# Things and which part of them is wrong for ONE.
WRONG = [
    (None, -1), (True, -1), (7, -1), ("", -1), ("a", -1), ((), -1), ([], -1), ({}, -1), ({0: ((), (1,))}, -1),
    ((((), (1,)), ((), (1,))), -1), ((None, None), -1), ((None,), 0), ((True,), 0), ((1,), 0), (("ab",), 0),
    (((),), 0), ((((),),), 0), ((((), ()),), 0), ((((1,), ()),), 0), ((((), (1,), (2,)),), 0), (([(), (1,)],), 0),
    ((((), [1]),), 0), ((([], (1,)),), 0), ((((), (True,)),), 0), ((((False,), (1,)),), 0), ((((None,), (1,)),), 0),
    ((((), (None,)),), 0), ((((), ("1",)),), 0), ((((), ((1,),)),), 0), ((((), (MOST + 1,)),), 0),
    ((((), (-MOST - 1,)),), 0), ((((MOST + 1,), (1,)),), 0), ((((), (1,) * 13),), 0), ((((1,) * 13, (1,)),), 0),
    ([((), ())], 0), ((((), 1),), 0), (((1, (1,)),), 0), (({(): (1,)},), 0), ((((), {1: 2}),), 0),
]


class ByHand:
    """Single beats by numbers that come round, and what the document says of their stretches."""

    def __init__(self, course, rounds, most):
        self.course, self.rounds = course, rounds
        self.lifts = sorted({0} | {lift[0] for lift in course.lifts()})
        hand = hand_of(course, by_rounds(rounds))
        self.rows, self.kept, self.fulls, self.jam = [], [hand.kept()], [self.full(hand)], None
        while len(self.rows) < most and self.jam is None:
            try:
                self.rows.append(hand.go())
                self.kept.append(hand.kept())
                self.fulls.append(self.full(hand))
            except Jam as told:
                self.jam = told.beat

    def full(self, hand):
        nexts = []
        for many, (row, again) in zip(hand.went, self.rounds):
            nexts.append(("row", many) if many < len(row) else ("again", (many - len(row)) % len(again)))
        return hand.kept(), hand.beat % self.course.web().common(), tuple(nexts)

    def due_of(self, start, end):
        """The refusal due of a stretch, end None of one without end."""
        if self.jam is not None and start < self.jam <= start + 600 and (end is None or self.jam <= end):
            return Jams, self.jam
        if (end is None or end - start > 600) and len(set(self.fulls[start:start + 601])) == 601:
            return TooLong, 600
        return None

    def due(self, end):
        """The refusal due up to a beat at which the last stretch ends."""
        starts = [beat for beat in self.lifts if beat < end]
        for start, stop in zip(starts, starts[1:] + [end]):
            if self.due_of(start, stop):
                return self.due_of(start, stop)
        return None

    def due_of_carried(self, beat):
        return self.due(beat - 1) or ((Jams, beat) if self.jam == beat else None)

    def due_of_all(self):
        return self.due(self.lifts[-1]) or self.due_of(self.lifts[-1], None)

    def round(self):
        last = self.lifts[-1]
        for first in range(last, last + 601):
            for later in range(first + 1, last + 601):
                if self.fulls[first] == self.fulls[later]:
                    return first, later - first


class Rounds(unittest.TestCase):
    def test_numbers_that_come_round(self):
        for thing in [(((), (1,)),), (((1,) * 12, (1,) * 12),), [((1, 2), (3,))], (((MOST, -MOST), (MOST, -MOST)),)]:
            self.assertIs(is_rounds(ONE, thing), True)
            self.assertEqual(len(far_carried(Course(ONE), thing, 1)), 1)
        self.assertIs(is_rounds(web=TWO, thing=(((), (1,)), ((1,), (2,)))), True)

    def test_of_anything(self):
        asks = [lambda rounds: far_carried(Course(ONE), rounds, 1), lambda rounds: far_stand(Course(ONE), rounds, 0),
                lambda rounds: far_round(Course(ONE), rounds), lambda rounds: far_nth(Course(ONE), rounds, None, 0),
                lambda rounds: far_parted(Course(ONE), rounds, None, None),
                lambda rounds: far_parted(Course(ONE), (((), (1,)),), rounds, None)]
        for thing, inlet in WRONG:
            self.assertIs(is_rounds(ONE, thing), False, thing)
            for ask in asks:
                with self.assertRaises(NoRounds) as caught:
                    ask(thing)
                self.assertTrue(equal_kinds(caught.exception.inlet, inlet), thing)
        for thing in anything():
            good = equal_kinds(thing, (((), (1,)),))
            self.assertIs(is_rounds(ONE, thing), good, thing)

    def test_the_first_that_is_wrong(self):
        good = ((), (1,))
        for thing, inlet in [((good, None), 1), ((None, None), 0), ((None, good), 0), ([good, ((), ())], 1),
                             ((good,), -1), ((good, good, good), -1), ((None,), -1)]:
            self.assertIs(is_rounds(TWO, thing), False)
            with self.assertRaises(NoRounds) as caught:
                far_stand(Course(TWO), thing, 3)
            self.assertEqual(caught.exception.inlet, inlet)

    def test_twelve_and_thirteen(self):
        for many in [1, 2, 12]:
            self.assertIs(is_rounds(ONE, (((), (1,) * many),)), True)
            self.assertIs(is_rounds(ONE, (((1,) * many, (1,)),)), True)
        self.assertIs(is_rounds(ONE, (((), (1,) * 13),)), False)
        self.assertIs(is_rounds(ONE, (((1,) * 13, (1,)),)), False)


class Single(unittest.TestCase):
    """What is told behind many beats is what so many single beats bring."""

    def test_by_hand(self):
        luck, dues = luck_of(31), {None: 0, Jams: 0, TooLong: 0}
        lifts = [[0], [0, 1, 2, 5, 30], [0, 600, 601, 602], [3, 599, 640, 1300], [700, 1299, 1300, 1301, 10 ** 50]]
        for turn in range(160):
            words = ("hold", "wait", "lag", "deal", "cross") if turn % 3 else ("wait", "join", "deal", "hold")
            web = made_web(luck, luck.randint(0, 7), words=words, most=luck.choice([2, 5, 12]))
            course = made_course(luck, web, luck.choice(lifts))
            rounds = made_rounds(luck, web, *luck.choice([(1,), (2,), (4,), (12,), (12, 7), (12, 7)]))
            hand = ByHand(course, rounds, 2100)
            for beat in luck.sample([0, 1, 2, 13, 40, 599, 600, 601, 602, 700, 701, 1201, 1300, 1301, 1302, 1400,
                                     1901, 2000, 2100], 6):
                due = hand.due(beat)
                dues[due and due[0]] += 1
                self.assertEqual(refusal(far_stand, course, rounds, beat), due)
                if not due:
                    told = unchanged(far_stand, course, rounds, beat)
                    self.assertTrue(equal_kinds(told, (beat, hand.kept[beat])))
                    self.assertIs(is_stand(web, told), True)
                if beat == 0:
                    continue
                due = hand.due_of_carried(beat)
                self.assertEqual(refusal(far_carried, course, rounds, beat), due)
                if not due:
                    self.assertTrue(equal_kinds(unchanged(far_carried, course, rounds, beat), hand.rows[beat - 1]))
        self.assertTrue(min(dues.values()) > 20, dues)

    def test_a_line(self):
        course, rounds = Course(TWO), (((5,), (6, 7)), ((), (1, 2, 3)))
        self.assertEqual([far_carried(course, rounds, beat) for beat in range(1, 9)], [
            (5, 1, None), (None, 2, None), (6, 3, 5), (None, 1, None), (7, 2, 6), (None, 3, None), (6, 1, 7), (None, 2, None)])
        self.assertEqual(far_stand(course, rounds, 0), (0, ((),)))
        self.assertEqual(far_stand(course=course, rounds=list(rounds), beat=5), (5, ((7,),)))
        self.assertEqual(far_carried(course=course, rounds=list(rounds), beat=5), (7, 2, 6))
        # At beat FAR - 1, an odd one, number FAR // 2 - 1 of a goes in, 7 as each even one.
        self.assertEqual(far_carried(course, rounds, FAR - 1), (6, 3, 7))
        self.assertEqual(far_stand(course, rounds, FAR), (FAR, ((6,),)))

    def test_as_a_run_of_the_same_numbers(self):
        luck = luck_of(32)
        for _ in range(60):
            web = made_web(luck, luck.randint(0, 6), words=("hold", "wait", "lag", "deal", "cross"))
            course = made_course(luck, web, [0, 1, 5, 20])
            rounds = made_rounds(luck, web, 12)
            feed = tuple(tuple((row + again * 40)[:40]) for row, again in rounds)
            rows = run(course, feed, 40)
            for beat in [1, 2, 3, 20, 21, 40]:
                self.assertEqual(far_carried(course, rounds, beat), rows[beat - 1])
                self.assertEqual(far_stand(course, rounds, beat), stand(course, feed, beat))

    def test_bits(self):
        luck = luck_of(33)
        for _ in range(60):
            web = made_web(luck, luck.randint(0, 6), words=("hold", "wait", "lag", "deal", "cross"), most=4)
            course = made_course(luck, web, [0, 1, 5, 20])
            rounds = made_rounds(luck, web, 3)
            for least in [-3, 0, 4]:
                ones = tuple(tuple(tuple(int(number >= least) for number in part) for part in pair) for pair in rounds)
                for beat in [3, 10 ** 9, FAR]:
                    if refusal(far_carried, course, rounds, beat) or refusal(far_carried, course, ones, beat):
                        continue
                    due = tuple(None if number is None else int(number >= least)
                                for number in far_carried(course, rounds, beat))
                    self.assertEqual(far_carried(course, ones, beat), due)


class FarBeats(unittest.TestCase):
    def numbers_from(self, course, rounds, beat, many):
        """The next numbers of each inlet behind a beat."""
        number = by_rounds(rounds)
        return tuple(tuple(number(inlet, times_of(rhythm, beat) + at) for at in range(many))
                     for inlet, (lane, rhythm) in enumerate(course.web().inlets()))

    def test_single_beats_about_far_ones(self):
        luck, seen = luck_of(34), 0
        for _ in range(20 * 40):
            if seen == 40:
                break
            web = made_web(luck, luck.randint(1, 6), words=("hold", "wait", "lag", "deal", "cross"), most=4)
            beats = [0, 2, 10 ** 20, 10 ** 20 + 1, 10 ** 20 + 3, 10 ** 40, FAR - 2, FAR - 1]
            course = made_course(luck, web, beats, 8)
            rounds = made_rounds(luck, web, 2)
            if refusal(far_stand, course, rounds, FAR):
                continue
            seen += 1
            for beat in [10 ** 20 - 5, 10 ** 40 - 3, FAR - 5]:
                start = far_stand(course, rounds, beat)
                feed = self.numbers_from(course, rounds, beat, 10)
                for many in range(1, 6):
                    rows, behind = go_on(course, start, feed, many)
                    self.assertTrue(equal_kinds(far_carried(course, rounds, beat + many), rows[-1]))
                    self.assertTrue(equal_kinds(far_stand(course, rounds, beat + many), behind))
        self.assertEqual(seen, 40)

    def test_rounds_alike(self):
        luck, seen = luck_of(35), 0
        for _ in range(20 * 60):
            if seen == 60:
                break
            web = made_web(luck, luck.randint(1, 6), words=("hold", "wait", "lag", "deal", "cross"), most=4)
            course = made_course(luck, web, [0, 2, 9, 33])
            rounds = made_rounds(luck, web, 3)
            hand = ByHand(course, rounds, 900)
            due = hand.due_of_all()
            self.assertEqual(refusal(far_round, course, rounds), due)
            if due:
                continue
            seen += 1
            first, many = hand.round()
            self.assertTrue(equal_kinds(unchanged(far_round, course, rounds), (first, many)))
            for beat in [FAR, FAR - 1, 10 ** 30]:
                like = first + (beat - first) % many
                self.assertEqual(far_stand(course, rounds, beat), (beat, hand.kept[like]))
                self.assertEqual(far_carried(course, rounds, beat), hand.rows[(like if like > first else like + many) - 1])
        self.assertEqual(seen, 60)


class Refused(unittest.TestCase):
    def test_a_round_of_600(self):
        course = Course(SLOW)
        self.assertTrue(equal_kinds(far_round(course=course, rounds=ROUND_600), (0, 600)))
        self.assertEqual(far_stand(course, ROUND_600, FAR), (FAR, ()))
        self.assertEqual(far_carried(course, ROUND_600, 600 * 10 ** 50 + 601), (1, 1, 1))
        self.assertEqual(far_carried(course, ROUND_600, 600 * 10 ** 50 + 600), (None, 8, 3))

    def test_more_than_600(self):
        course = Course(SLOW)
        for rounds in [LATER_600, LONG]:
            self.assertEqual(refusal(far_round, course, rounds), (TooLong, 600))
            for beat in [601, 602, FAR]:
                self.assertEqual(refusal(far_stand, course, rounds, beat), (TooLong, 600))
                self.assertEqual(refusal(far_carried, course, rounds, beat + 1), (TooLong, 600))
            self.assertEqual(far_stand(course, rounds, 600), (600, ()))
            self.assertEqual(len(far_carried(course, rounds, 600)), 3)
            self.assertEqual(len(far_carried(course, rounds, 601)), 3)

    def test_lifts_part_stretches(self):
        web = Web(SLOW.inlets(), [("hold", "b", "d", 0, 0)])
        for lifts, beat, due in [([(600, 0, "up")], 1200, None), ([(600, 0, "up")], 1201, (TooLong, 600)),
                                 ([(601, 0, "up")], 601, (TooLong, 600)), ([(601, 0, "up")], 602, (TooLong, 600)),
                                 ([(500, 0, "down"), (1100, 0, "down")], 1700, None),
                                 ([(500, 0, "down"), (1101, 0, "down")], 1700, (TooLong, 600)),
                                 ([(500, 0, "down"), (1101, 0, "down")], 1100, None),
                                 ([(500, 0, "down"), (1100, 0, "down")], 1701, (TooLong, 600))]:
            course = Course(web, lifts=lifts)
            self.assertEqual(refusal(far_stand, course, LONG, beat), due, (lifts, beat))
            self.assertEqual(refusal(far_carried, course, LONG, beat + 1), due, (lifts, beat))
            self.assertEqual(refusal(far_round, course, LONG), (TooLong, 600))

    def test_jams(self):
        course = Course(jam_at(600))
        rounds = (((), (1,)), ((), (1,)))
        self.assertEqual(far_stand(course, rounds, 599)[0], 599)
        for beat in [600, 601, FAR]:
            self.assertEqual(refusal(far_stand, course, rounds, beat), (Jams, 600))
            self.assertEqual(refusal(far_carried, course, rounds, beat), (Jams, 600))
        self.assertEqual(refusal(far_round, course, rounds), (Jams, 600))
        course = Course(jam_at(601))
        self.assertEqual(far_stand(course, rounds, 600)[0], 600)
        self.assertEqual(refusal(far_carried, course, rounds, 601), (Jams, 601))
        self.assertEqual(refusal(far_carried, course, rounds, 602), (TooLong, 600))
        self.assertEqual(refusal(far_stand, course, rounds, 601), (TooLong, 600))
        self.assertEqual(refusal(far_round, course, rounds), (TooLong, 600))

    def test_jams_within_600_of_its_stretch(self):
        web = jam_at(601)
        gates = web.gates() + [("wait", "j", "k", 0)]
        rounds = (((), (1,)), ((), (1,)))
        for lift, due in [(0, (TooLong, 600)), (1, (Jams, 601)), (600, (Jams, 601)), (601, (TooLong, 600)), (FAR, (TooLong, 600))]:
            course = Course(Web(web.inlets(), gates), lifts=[(lift, len(gates) - 1, "up")])
            self.assertEqual(refusal(far_stand, course, rounds, 700), due)
            self.assertEqual(refusal(far_carried, course, rounds, 700), due)
            self.assertEqual(refusal(far_round, course, rounds), due)

    def test_lifts_at_the_asked_beat_and_behind(self):
        course = Course(Web([("a", "x")], [("wait", "a", "b", 1)]), lifts=[(5, 0, "up"), (FAR, 0, "down")])
        rounds = (((), (1, 2, 3)),)
        self.assertEqual([far_carried(course, rounds, beat)[1] for beat in [4, 5, 6, 7]], [3, 1, 3, 1])
        self.assertEqual([far_stand(course, rounds, beat) for beat in [5, 6, FAR]],
                         [(5, ((2,),)), (6, ((2,),)), (FAR, ((2,),))])
        # 3 divides FAR - 1, so at beat FAR the first of three goes in.
        self.assertEqual(far_carried(course, rounds, FAR), (1, 1))
        self.assertEqual(far_carried(course, rounds, FAR + 1), (2, 2))
        self.assertEqual(far_carried(course, rounds, FAR + 2), (3, 2))
        self.assertEqual(far_round(course, rounds), (FAR + 1, 3))


class Nth(unittest.TestCase):
    def test_by_hand(self):
        luck, seen, nones = luck_of(36), 0, 0
        for _ in range(20 * 60):
            if seen == 60:
                break
            web = made_web(luck, luck.randint(0, 6), most=4)
            course = made_course(luck, web, [0, 2, 9])
            rounds = made_rounds(luck, web, 3)
            hand = ByHand(course, rounds, 700)
            due = refusal(beat_at, course, web.lanes()[0], 0)
            if due:
                self.assertEqual(refusal(far_nth, course, rounds, luck.choice(web.lanes()), 0), due)
                continue
            seen += 1
            for place, lane in enumerate(web.lanes()):
                went = [(at + 1, row[place]) for at, row in enumerate(hand.rows) if row[place] is not None]
                for number in {0, 1, 5, len(went) // 2}:
                    if number >= len(went):
                        self.assertIsNone(beat_at(course, lane, number))
                        self.assertIsNone(far_nth(course, rounds, lane, number))
                        nones += 1
                    elif went[number][0] <= 600:
                        self.assertTrue(equal_kinds(unchanged(far_nth, course, rounds, lane, number), went[number]))
                self.check_far(course, rounds, lane, place)
        self.assertEqual(seen, 60)
        self.assertTrue(nones > 5)

    def check_far(self, course, rounds, lane, place):
        beat = beat_at(course, lane, FAR)
        if beat is None:
            self.assertIsNone(far_nth(course, rounds, lane, FAR))
            return
        due = refusal(far_carried, course, rounds, beat)
        self.assertEqual(refusal(far_nth, course, rounds, lane, FAR), due)
        if not due:
            number = far_carried(course, rounds, beat)[place]
            self.assertTrue(equal_kinds(far_nth(course, rounds, lane, FAR), (beat, number)))

    def test_a_line(self):
        course, rounds = Course(TWO), (((5,), (6, 7)), ((), (1, 2, 3)))
        self.assertEqual([far_nth(course, rounds, "c", number) for number in range(4)], [(3, 5), (5, 6), (7, 7), (9, 6)])
        self.assertEqual(far_nth(course=course, rounds=list(rounds), lane="a", number=FAR), (2 * FAR + 1, 7))
        self.assertEqual(far_nth(course, rounds, "b", FAR), (FAR + 1, 2))
        self.assertIsNone(far_nth(Course(Web([("a", "x")], [("deal", "a", "b", "c", "l")])), (((), (1,)),), "c", 0))

    def test_the_refusal_told_first(self):
        jams, rounds = Course(jam_at(600)), (((), (1,)), ((), (1,)))
        for thing in anything():
            if isinstance(thing, str) and thing == "a":
                continue
            with self.assertRaises(NoLane) as caught:
                far_nth(jams, rounds, thing, 0)
            self.assertTrue(equal_kinds(caught.exception.lane, thing))
            with self.assertRaises(NoRounds):
                far_nth(jams, (((), (1,)), None), thing, 0)
        self.assertEqual(refusal(far_nth, jams, rounds, "a", 0), (Jams, 600))
        self.assertEqual(refusal(far_nth, Course(jam_at(601)), rounds, "a", 0), (TooLong, 600))
        # Bones of one beat, but numbers that come round late: told up to the 601st.
        course = Course(SLOW)
        self.assertEqual(far_nth(course, LONG, "b", 600), (601, 1))
        self.assertEqual(refusal(far_nth, course, LONG, "b", 601), (TooLong, 600))
        self.assertEqual(refusal(far_nth, Course(round_of_600(("lag", "c", "l", 3))), (((), (1,)),) * 3, "a", 0),
                         (TooLong, 600))
        late = Course(TWO, lifts=[(600, 0, "up")])
        self.assertEqual(refusal(far_nth, late, (((), (1,)),) * 2, "a", 0), (TooLong, 600))


class Parted(unittest.TestCase):
    def test_by_hand(self):
        luck, seen = luck_of(37), {None: 0, "beat": 0, "refused": 0}
        for _ in range(500):
            web = made_web(luck, luck.randint(0, 6), most=5)
            course = made_course(luck, web, luck.choice([[0, 2, 9], [0, 5, 650, 1000]]), 4)
            rounds, other = made_rounds(luck, web, 3), made_rounds(luck, web, 3)
            if luck.random() < 0.5:
                other = tuple((row + again * luck.randint(0, 1), again * luck.randint(1, 2)) for row, again in rounds)
            lane = luck.choice(web.lanes())
            due = self.due(course, rounds, other, lane)
            seen[due if due is None else "beat" if isinstance(due, int) else "refused"] += 1
            told = refusal(far_parted, course, rounds, other, lane)
            if told is None:
                told = unchanged(far_parted, course, rounds, other, lane)
            self.assertTrue(equal_kinds(told, due) if isinstance(due, int) else told == due)
        self.assertTrue(min(seen.values()) > 30, seen)

    def due(self, course, rounds, other, lane):
        """The refusal, the beat, or None, by single beats."""
        hands = [ByHand(course, told, 1700) for told in (rounds, other)]
        place = course.web().lanes().index(lane)
        lifts = hands[0].lifts
        for start, end in zip(lifts, lifts[1:] + [None]):
            for hand in hands:
                if hand.due_of(start, end):
                    return hand.due_of(start, end)
            many = 1700 if end is None else end
            for beat in range(start + 1, min(many, len(hands[0].rows)) + 1):
                if hands[0].rows[beat - 1][place] != hands[1].rows[beat - 1][place]:
                    return beat
        return None

    def test_a_line(self):
        course, rounds = Course(TWO), (((5,), (6, 7)), ((), (1, 2, 3)))
        self.assertIsNone(far_parted(course, rounds, rounds, "c"))
        self.assertIsNone(far_parted(course, rounds, (((5, 6), (7, 6)), ((), (1, 2, 4))), "c"))
        self.assertEqual(far_parted(course, rounds, (((5, 6), (7, 6)), ((), (1, 2, 4))), "b"), 3)
        told = far_parted(course=course, rounds=list(rounds), other=[((5, 6), (7, 8)), ((), (1,))], lane="c")
        self.assertTrue(equal_kinds(told, 9))

    def test_apart_late(self):
        course = Course(Web([("a", "x"), ("b", "x")], [("cross", "a", "b", "c", "d")]))
        # c carries 1 where either does: a at each 11th beat, b at each 12th; 2 but at beat 132.
        rounds = (((), (2,) * 10 + (3,)), ((), (2,) * 11 + (3,)))
        other = (((), (2,) * 10 + (3,)), ((), (2,) * 12))
        self.assertEqual(far_parted(course, rounds, other, "c"), 132)
        self.assertEqual(far_parted(course, rounds, other, "d"), 12)
        self.assertIsNone(far_parted(course, rounds, other, "a"))
        slow = Course(SLOW)
        changed = (ROUND_600[0], ((), (1, 2, 3, 4, 5, 6, 7, 9)), ROUND_600[2])
        self.assertEqual(far_parted(slow, ROUND_600, changed, "b"), 8)
        self.assertIsNone(far_parted(slow, ROUND_600, changed, "a"))

    def test_apart_but_for_a_lift(self):
        # a's numbers come apart at each beat 10 of 30; d carries them where the cross isn't lifted.
        web = Web([("a", "x"), ("b", "x")], [("cross", "a", "b", "c", "d")])
        rounds, other = (((), (1, 1, 1, 1, 2)), ((), (0,))), (((), (1, 1, 1, 1, 2, 1)), ((), (0,)))
        for lifts, lane, due in [
                ([], "d", 10), ([], "c", None), ([(7, 0, "up")], "d", None), ([(7, 0, "up")], "c", 10),
                ([(9, 0, "up")], "d", None), ([(10, 0, "up")], "d", 10), ([(0, 0, "up"), (9, 0, "down")], "d", 10),
                ([(0, 0, "up"), (30, 0, "down"), (37, 0, "up")], "d", None),
                ([(0, 0, "up"), (30, 0, "down"), (39, 0, "up")], "d", None),
                ([(0, 0, "up"), (30, 0, "down"), (40, 0, "up")], "d", 40)]:
            self.assertEqual(far_parted(Course(web, lifts=lifts), rounds, other, lane), due, (lifts, lane))

    def test_behind_a_far_lift(self):
        web = Web([("a", "x"), ("b", "x")], [("cross", "a", "b", "c", "d")])
        rounds, other = (((), (1,)), ((), (2,))), (((), (2,)), ((), (1,)))
        self.assertIsNone(far_parted(Course(web), rounds, other, "c"))
        for beat in [0, 1, 599, 600, 601, 10 ** 30, FAR - 1, FAR]:
            course = Course(web, lifts=[(beat, 0, "up")])
            self.assertEqual(far_parted(course, rounds, other, "c"), beat + 1)
            course = Course(web, lifts=[(beat, 0, "down")])
            self.assertIsNone(far_parted(course, rounds, other, "c"))

    def test_refused_stretch_by_stretch_ahead_of_a_beat_in_it(self):
        lifted = Web(SLOW.inlets(), [("hold", "b", "d", 0, 0)])
        for one, other, lift, due in [
                (ROUND_600, LONG, 700, (TooLong, 600)), (LONG, ROUND_600, 700, (TooLong, 600)),
                (ROUND_600, LONG, 600, 4), (LONG, ROUND_600, 600, 4), (LONG, LONG, 600, (TooLong, 600)),
                (ROUND_600, ROUND_600, 700, None)]:
            course = Course(lifted, lifts=[(lift, 0, "up")])
            self.assertEqual(refusal(far_parted, course, one, other, "c") or far_parted(course, one, other, "c"), due)
        self.assertEqual(refusal(far_parted, Course(SLOW), ROUND_600, LONG, "c"), (TooLong, 600))
        course, rounds = Course(jam_at(600)), (((), (1,)), ((), (1,)))
        self.assertEqual(refusal(far_parted, course, rounds, (((), (2,)), ((), (1,))), "a"), (Jams, 600))
        gates = jam_at(600).gates() + [("wait", "j", "k", 0)]
        course = Course(Web(jam_at(600).inlets(), gates), lifts=[(300, len(gates) - 1, "up")])
        self.assertEqual(far_parted(course, rounds, (((), (2,)), ((), (1,))), "a"), 1)
        self.assertEqual(refusal(far_parted, course, rounds, rounds, "a"), (Jams, 600))
        # The first one's are too long ahead of the jam that both have.
        web = Web([("a", "x----"), ("b", "x"), ("c", "x")], [("deal", "c", "d", "e", "l")])
        self.assertEqual(refusal(far_parted, Course(web), LONG, ROUND_600, "a"), (TooLong, 600))

    def test_no_rounds_of_the_first_of_the_second_then_no_lane(self):
        good = (((), (1,)),)
        for thing, inlet in WRONG:
            for first, second in [(thing, None), (thing, good), (good, thing)]:
                with self.assertRaises(NoRounds) as caught:
                    far_parted(Course(ONE), first, second, "z")
                self.assertEqual(caught.exception.inlet, inlet)
        for thing in anything():
            if isinstance(thing, str) and thing == "a":
                continue
            with self.assertRaises(NoLane) as caught:
                far_parted(Course(ONE), good, good, thing)
            self.assertTrue(equal_kinds(caught.exception.lane, thing))
        for lane in ["z", ["a"]]:
            with self.assertRaises(NoLane):
                far_parted(Course(jam_at(600)), (((), (1,)),) * 2, (((), (1,)),) * 2, lane)
