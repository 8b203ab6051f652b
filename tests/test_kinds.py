import unittest

from holdgates.bounds import STANDS
from holdgates.errors import Jams, NoInlet, NoKind, NoLane, TooLong, TooMany
from holdgates.kinds import greatest_at, greatest_kind, shows_greatest, shows_greatest_at
from holdgates.riselooks import shows_rises
from holdgates.rises import rises
from holdgates.webs import Web
from tests.helper import (LINE, Bits, anything, equal_kinds, gone_through, jam_at, luck_of, made_kinds, made_web,
                          refusal, round_of_600, some_spoilt, unchanged)

HOLD = Web([("a", "x")], [("hold", "a", "b", 3, 0)])
JAMS = Web([("a", "x"), ("b", "x")], [("join", "a", "b", "c", 1)])
TWO = Web([("a", "x"), ("b", "x")], [("hold", "a", "c", 2, 0), ("hold", "b", "d", 5, 0), ("cross", "c", "d", "e", "f")])
NEVER = Web([("a", "x")], [("deal", "a", "b", "c", "l")])
LADDER = [0, 1, 2, 3, 4, 5, 6, 7, 8, None]


def falls_by_hand(web, lane, kinds):
    """Whether a lane falls for a kind, through all noughts and ones; None where there is too much to go through."""
    place = web.lanes().index(lane)

    def carried(bits):
        return [row[0][place] for row in bits.seen]
    gone = gone_through(Bits([web], kinds), lambda bits: (*bits.stand(), 1 in carried(bits)),
                        lambda bits: 0 if carried(bits)[-1] == 0 and 1 in carried(bits)[:-1] else None, 250)
    return gone if gone is None else bool(gone[1])


def greatest_by_hand(web, lane, kinds_of):
    """The greatest kind up a ladder, step by step."""
    last = "never"
    for kind in LADDER:
        falls = falls_by_hand(web, lane, kinds_of(kind))
        if falls is None:
            return "too many"
        if falls:
            return last
        last = kind
    return None


class Greatest(unittest.TestCase):
    def check(self, web, lane, told, kinds_of):
        """Checks the parts of an answer, and that the look lets it by."""
        self.assertIs(type(told), tuple)
        kind, rise, fall = told
        at = -1 if kind == "never" else LADDER.index(kind)
        self.assertTrue(equal_kinds(rise, None if kind == "never" else rises(web, lane, kinds=kinds_of(kind))))
        self.assertTrue(equal_kinds(fall, None if kind is None else rises(web, lane, kinds=kinds_of(LADDER[at + 1]))))
        self.assertTrue(rise is None or rise[0] == "rises")
        self.assertTrue(fall is None or fall[0] == "falls")

    def test_holds(self):
        for most in range(13):
            web = Web([("a", "x")], [("hold", "a", "b", most, 0)])
            told = greatest_kind(web, "b")
            self.assertTrue(equal_kinds(told[0], min(most, 8)))
            self.check(web, "b", told, lambda kind: (kind,))
            self.assertTrue(equal_kinds(greatest_at(web, "b", 0), told))
            self.assertTrue(equal_kinds(greatest_at(web=web, lane="b", inlet=0, kinds=[3]), told))

    def test_never(self):
        # Of one inlet's two lanes one is held longer, and comes behind what was later.
        web = Web([("a", "x")], [("deal", "a", "b", "c", "lr"), ("lag", "b", "d", 2), ("join", "c", "d", "e", 1)])
        told = greatest_kind(web=web, lane="e")
        self.assertTrue(equal_kinds(told[:2], ("never", None)))
        self.check(web, "e", told, lambda kind: (kind,))
        self.assertEqual(greatest_at(web, "e", 0)[0], "never")
        two = Web([("a", "x"), ("b", "x")], [("deal", "a", "c", "d", "lr"), ("deal", "b", "e", "f", "lr"), ("join", "c", "f", "g", 0)])
        self.assertEqual(greatest_kind(two, "g")[0], "never")

    def test_all_feeds(self):
        told = greatest_kind(NEVER, "c")
        self.assertTrue(equal_kinds(told, (None, ("rises", [(0, ((0,),), (None,), 0)]), None)))
        # A token that is kept for ever: the first one alone goes on ever again.
        web = Web([("a", "x")], [("deal", "a", "b", "c", "r"), ("hold", "b", "d", 1, 0)])
        self.assertIsNone(greatest_kind(web, "d")[0])
        self.check(web, "d", greatest_kind(web, "d"), lambda kind: (kind,))

    def test_at_one_inlet(self):
        self.assertEqual(greatest_kind(TWO, "c")[0], 2)
        self.assertEqual(greatest_kind(TWO, "d")[0], 5)
        self.assertEqual(greatest_at(TWO, "c", 0)[0], 2)
        self.assertIsNone(greatest_at(TWO, "c", 1, kinds=(2, 0))[0])
        self.assertEqual(greatest_at(TWO, "c", 1, kinds=(3, 0))[0], "never")
        self.assertIsNone(greatest_at(TWO, "d", 0, kinds=(8, 5))[0])
        self.assertEqual(greatest_at(TWO, "d", 1, kinds=(None, None))[0], 5)
        self.assertEqual(greatest_at(TWO, "d", 0)[0], "never")

    def test_whatever_stands_there(self):
        for kind in LADDER:
            told = greatest_at(TWO, "d", 1, kinds=(1, kind))
            self.assertTrue(equal_kinds(told, greatest_at(TWO, "d", 1, kinds=[1, 0])))
            self.check(TWO, "d", told, lambda step: (1, step))
            self.assertIs(shows_greatest_at(TWO, "d", 1, told, kinds=(1, kind)), True)

    def test_by_hand(self):
        luck, many = luck_of(131), {}
        for _ in range(150):
            web = made_web(luck, luck.randint(0, 4), words=("hold", "hold", "wait", "lag", "deal", "cross", "join"), most=6)
            lane = luck.choice(web.lanes())
            if refusal(greatest_kind, web, lane):
                continue
            due = greatest_by_hand(web, lane, lambda kind: (kind,) * len(web.inlets()))
            if due == "too many":
                continue
            told = unchanged(greatest_kind, web, lane)
            self.assertTrue(equal_kinds(told[0], due))
            self.check(web, lane, told, lambda kind: (kind,) * len(web.inlets()))
            self.assertIs(shows_greatest(web, lane, told), True)
            many[due] = many.get(due, 0) + 1
            inlet, kinds = luck.randrange(len(web.inlets())), made_kinds(luck, web)

            def amid(kind):
                return kinds[:inlet] + (kind,) + kinds[inlet + 1:]
            if refusal(greatest_at, web, lane, inlet, kinds=kinds):
                continue
            due = greatest_by_hand(web, lane, amid)
            if due != "too many":
                told = unchanged(lambda *all_told: greatest_at(*all_told, kinds=kinds), web, lane, inlet)
                self.assertTrue(equal_kinds(told[0], due))
                self.check(web, lane, told, amid)
                self.assertIs(shows_greatest_at(web, lane, inlet, told, kinds=kinds), True)
        self.assertTrue(sum(many.values()) > 50 and len(many) > 4, many)

    def test_lesser_kinds_rise_too(self):
        luck = luck_of(132)
        for _ in range(60):
            web = made_web(luck, luck.randint(0, 3), most=5)
            lane = luck.choice(web.lanes())
            if refusal(greatest_kind, web, lane):
                continue
            kind = greatest_kind(web, lane)[0]
            for at, other in enumerate(LADDER):
                if refusal(rises, web, lane, kinds=(other,) * len(web.inlets())):
                    continue
                word = rises(web, lane, kinds=(other,) * len(web.inlets()))[0]
                self.assertEqual(word == "rises", kind != "never" and at <= LADDER.index(kind))


class Looks(unittest.TestCase):
    def shown(self, web, lane, thing, kinds_of):
        """By the document's words: both answers are let by, one that it rises, one that it falls."""
        if type(thing) is not tuple or len(thing) != 3:
            return False
        kind, rise, fall = thing
        if kind == "never" and type(kind) is str:
            at = -1
        elif kind is None or type(kind) is int and 0 <= kind <= 8:
            at = LADDER.index(kind)
        else:
            return False
        for step, word, part in [(at, "rises", rise), (at + 1, "falls", fall)]:
            if not 0 <= step < 10:
                if part is not None:
                    return False
            elif not shows_rises(web, lane, part, kinds=kinds_of(LADDER[step])) or part[0] != word:
                return False
        return True

    def test_told_answers_and_spoilt_ones(self):
        luck = luck_of(133)
        last = Web([("a", "x")], [("hold", "a", "b", 9, 0)])
        first = Web([("a", "x")], [("hold", "a", "b", 0, 0)])
        never = Web([("a", "x"), ("b", "x")])
        for web, lane in [(HOLD, "b"), (LINE, "a"), (last, "b"), (first, "b"), (NEVER, "c"), (never, "a")]:
            many = len(web.inlets())
            told = greatest_kind(web, lane)
            self.assertIs(shows_greatest(web=web, lane=lane, thing=told), True)
            self.assertIs(shows_greatest_at(web=web, lane=lane, inlet=0, thing=told, kinds=None), many == 1)
            right = 0
            for thing in some_spoilt(luck, told, 250):
                due = self.shown(web, lane, thing, lambda kind: (kind,) * many)
                self.assertIs(unchanged(shows_greatest, web, lane, thing), due)
                right += due
                other = luck.choice(LADDER)
                due = self.shown(web, lane, thing, lambda kind: (kind, other)[:many])
                self.assertIs(shows_greatest_at(web, lane, 0, thing, kinds=[3, other][:many]), due)
            self.assertTrue(right < 60, right)
            for thing in anything():
                self.assertIs(shows_greatest(web, lane, thing), False)
                self.assertIs(shows_greatest_at(web, lane, 0, thing), False)

    def test_other_kinds(self):
        kind, rise, fall = greatest_kind(HOLD, "b")
        self.assertEqual(kind, 3)
        for other in [2, 4, "never", None, True, "3", -1, 9, (3,), LINE]:
            self.assertIs(shows_greatest(HOLD, "b", (other, rise, fall)), False)
        self.assertIs(shows_greatest(HOLD, "b", (3, fall, rise)), False)
        self.assertIs(shows_greatest(HOLD, "b", (3, None, fall)), False)
        self.assertIs(shows_greatest(HOLD, "b", (3, rise, None)), False)
        self.assertIs(shows_greatest(HOLD, "b", (2, rises(HOLD, "b", kinds=(2,)), rises(HOLD, "b", kinds=(3,)))), False)
        self.assertIs(shows_greatest(HOLD, "b", (2, rises(HOLD, "b", kinds=(2,)), fall)), False)
        self.assertIs(shows_greatest(HOLD, "b", (4, fall, rises(HOLD, "b", kinds=(5,)))), False)

    def test_ends_of_the_ladder(self):
        never = Web([("a", "x"), ("b", "x")], [("cross", "a", "b", "c", "d"), ("deal", "c", "e", "f", "lr"),
                                               ("lag", "e", "g", 2), ("join", "g", "f", "h", 1)])
        kind, rise, fall = greatest_kind(never, "h")
        self.assertEqual((kind, rise), ("never", None))
        self.assertIs(shows_greatest(never, "h", ("never", None, fall)), True)
        for thing in [("never", fall, fall), ("never", None, None), (0, None, fall), (0, fall, fall), (None, fall, None),
                      ("never", (), fall), ("Never", None, fall), (-1, None, fall), (False, None, fall)]:
            self.assertIs(shows_greatest(never, "h", thing), False)
        kind, rise, fall = greatest_kind(NEVER, "c")
        for thing, due in [((None, rise, None), True), ((None, rise, rise), False), ((None, None, None), False),
                           ((8, rise, None), False), ((9, rise, None), False), (("never", None, rise), False), ((None, rise, ()), False)]:
            self.assertIs(shows_greatest(NEVER, "c", thing), due)
        last = Web([("a", "x")], [("hold", "a", "b", 9, 0)])
        kind, rise, fall = greatest_kind(last, "b")
        self.assertEqual(kind, 8)
        self.assertIs(shows_greatest(last, "b", (8, rise, fall)), True)
        self.assertIs(shows_greatest(last, "b", (None, rise, None)), False)
        # Of all feeds a fall must be of the next kind: this one is of none with a number.
        self.assertEqual(fall[1], 11)

    def test_another_order_and_another_feed(self):
        luck = luck_of(134)
        kind, (word, lot), fall = greatest_kind(HOLD, "b")
        luck.shuffle(lot)
        self.assertIs(shows_greatest(HOLD, "b", (3, (word, lot), ("falls", 5, ((9, 8, 7, 6, 5),)))), True)
        self.assertIs(shows_greatest(HOLD, "b", (3, (word, lot), ("falls", 6, ((9, 9, 9, 9, 9, 5),)))), False)
        self.assertIs(shows_greatest(HOLD, "b", (3, (word, lot), ("falls", 6, ((0, 9, 9, 9, 9, 5),)))), True)
        lot.pop()
        self.assertIs(shows_greatest(HOLD, "b", (3, (word, lot), fall)), False)

    def test_looks_at_one_inlet(self):
        told = greatest_at(TWO, "d", 1, kinds=(4, 4))
        self.assertIs(shows_greatest_at(TWO, "d", 1, told, kinds=(4, 0)), True)
        for inlet, kinds in [(1, (5, 4)), (1, (None, 4)), (1, None), (0, (4, 4)), (0, (4, 5))]:
            self.assertIs(shows_greatest_at(TWO, "d", inlet, told, kinds=kinds), False)


ASKS = [lambda web, lane, inlet, kinds: greatest_at(web, lane, inlet, kinds=kinds)]
ASKS += [lambda web, lane, inlet, kinds, thing=thing: shows_greatest_at(web, lane, inlet, thing, kinds=kinds)
         for thing in (None, ("never", None, ("falls", 2, ((1, 0),))), 7)]
ALIKE = [greatest_kind] + [lambda web, lane, thing=thing: shows_greatest(web, lane, thing)
                           for thing in (None, ("never", None, ("falls", 2, ((1, 0),))), 7)]


class Refused(unittest.TestCase):
    def raised(self, kind, ask, *told):
        with self.assertRaises(kind) as caught:
            ask(*told)
        self.assertIs(type(caught.exception), kind)
        return list(vars(caught.exception).values())

    def test_no_lane_of_anything_ahead_of_all(self):
        for thing in anything() + ["zz"]:
            if isinstance(thing, str) and thing in ("a", "b", "c"):
                continue
            for web in [HOLD, JAMS]:
                for ask in ALIKE:
                    self.assertTrue(equal_kinds(self.raised(NoLane, ask, web, thing), [thing]))
                for ask in ASKS:
                    self.assertTrue(equal_kinds(self.raised(NoLane, ask, web, thing, 7, 9), [thing]))
                    self.assertTrue(equal_kinds(self.raised(NoLane, ask, web, thing, 0, None), [thing]))

    def test_no_kind_of_anything_ahead_of_no_inlet(self):
        for web in [HOLD, JAMS]:
            many = len(web.inlets())
            for thing in anything():
                for kinds in [thing, (thing,) * many, [0] * (many - 1) + [thing]]:
                    fits = kinds is None or isinstance(kinds, (list, tuple)) and len(kinds) == many and all(
                        part is None or type(part) is int and 0 <= part <= 8 for part in kinds)
                    if not fits:
                        for ask in ASKS:
                            self.assertTrue(equal_kinds(self.raised(NoKind, ask, web, "a", 9, kinds), [kinds]))

    def test_no_inlet_of_anything_ahead_of_jams(self):
        for web in [HOLD, JAMS]:
            many = len(web.inlets())
            for thing in anything() + [-1, many, 0.0]:
                if type(thing) is int and 0 <= thing < many:
                    continue
                for ask in ASKS:
                    for kinds in [None, (8,) * many, [None] * many]:
                        self.assertTrue(equal_kinds(self.raised(NoInlet, ask, web, "a", thing, kinds), [thing]))

    def test_jams_and_too_long(self):
        more = [*round_of_600().gates(), ("lag", "c", "l", 3)]
        for web, due in [(JAMS, (Jams, 2)), (jam_at(600), (Jams, 600)), (jam_at(601), (TooLong, 600)),
                         (Web(round_of_600().inlets(), more), (TooLong, 600))]:
            for ask in ALIKE:
                self.assertEqual(refusal(ask, web, "a"), due)
            for ask in ASKS:
                self.assertEqual(refusal(ask, web, "a", 1, None), due)

    def test_too_many_of_the_first_kind_that_has(self):
        # For 0 there are few, for 8 there are too many ahead of any fall.
        web = Web([("a", "x")], [("wait", "a", "b", 12)])
        told = greatest_kind(web, "b")
        self.assertEqual((told[0], told[2][0]), (0, "falls"))
        self.assertEqual(refusal(rises, web, "b"), (TooMany, STANDS))
        kinds = ("x", "x", "x")
        wide = Web(list(zip("abc", kinds)), [("hold", "a", "d", 3, 3), ("hold", "b", "e", 4, 0), ("hold", "c", "f", 5, 0),
                                             ("deal", "d", "g", "h", "l")])
        due = [refusal(rises, wide, "h", kinds=(kind,) * 3) for kind in LADDER]
        self.assertIsNone(due[0])
        self.assertIn((TooMany, STANDS), due)
        self.assertEqual(refusal(greatest_kind, wide, "h"), (TooMany, STANDS))
        self.assertEqual(refusal(greatest_at, wide, "h", 2, kinds=(8, 8, 0)), (TooMany, STANDS))
        self.assertIs(shows_greatest(wide, "h", (None, None, None)), False)
