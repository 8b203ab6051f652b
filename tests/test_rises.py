import unittest

from holdgates.bounds import STANDS
from holdgates.errors import Jams, NoKind, NoLane, TooLong, TooMany
from holdgates.feeds import cut
from holdgates.likes import is_of
from holdgates.rises import rises
from holdgates.webs import Web
from tests.helper import (FALLS_2000, FALLS_2001, JUST_2000, JUST_2001, LINE, Bits, anything, equal_kinds, gone_through,
                          jam_at, luck_of, made_kinds, made_web, refusal, round_of_600, run_by_hand, unchanged)

HOLD = Web([("a", "x")], [("hold", "a", "b", 3, 0)])
JAMS = Web([("a", "x"), ("b", "x")], [("join", "a", "b", "c", 1)])


def carried_at(bits, place):
    return [row[0][place] for row in bits.seen]


def fell(place):
    """Of a web by hand 0 where it carries a nought behind a one at the last beat, else None."""
    def told(bits):
        row = carried_at(bits, place)
        return 0 if row[-1] == 0 and 1 in row[:-1] else None
    return told


class Rises(unittest.TestCase):
    def check(self, web, lane, kinds):
        """Checks an answer against a going by hand, and tells its word; None where there is too much to go through."""
        place = web.lanes().index(lane)

        def key(bits):
            return (*bits.stand(), int(1 in carried_at(bits, place)))
        gone = gone_through(Bits([web], kinds), key, fell(place))
        if gone is None:
            return None
        found, ended = gone
        told = unchanged(lambda *all_told: rises(*all_told, kinds=kinds), web, lane)
        if not ended:
            self.assertTrue(equal_kinds(told[0], "rises"))
            self.assertIsInstance(told[1], list)
            self.assertTrue(equal_kinds(sorted(told[1], key=repr), sorted(found, key=repr)))
            self.assertEqual(len(told), 2)
            return "rises"
        word, beat, feed = told
        self.assertTrue(equal_kinds((word, beat), ("falls", len(ended[0].seen))))
        self.assertTrue(equal_kinds(feed, tuple(tuple(int(bit == 1) for bit in row) for row in feed)))
        self.assertEqual(cut(web, feed, beat), feed)
        self.assertIs(is_of(web, kinds, feed), True)
        row = [row[place] for row in run_by_hand(web, feed, beat)]
        self.assertEqual(row[-1], 0)
        self.assertIn(1, row)
        self.assertFalse(any(row[at] == 0 and 1 in row[:at] for at in range(beat - 1)))
        return "falls"

    def test_a_line(self):
        self.assertTrue(equal_kinds(rises(web=LINE, lane="a"), ("falls", 2, ((1, 0),))))
        self.assertTrue(equal_kinds(rises(LINE, "a", kinds=None), ("falls", 2, ((1, 0),))))
        for kind in range(1, 9):
            self.assertEqual(rises(LINE, "a", kinds=(kind,)), ("falls", 2, ((1, 0),)))
        for kinds in [(0,), [0]]:
            word, lot = rises(LINE, "a", kinds=kinds)
            self.assertEqual(word, "rises")
            self.assertTrue(equal_kinds(sorted(lot, key=repr), [(0, (), (0,), 1), (0, (), (None,), 0)]))

    def test_holds(self):
        for most in range(9):
            web = Web([("a", "x")], [("hold", "a", "b", most, 0)])
            for kind in range(9):
                word = self.check(web, "b", (kind,))
                self.assertEqual(word, "rises" if kind <= most else "falls")
            self.assertEqual(self.check(web, "b", None), "falls")
            self.assertEqual(rises(web, "b")[1], most + 2)

    def test_waits_and_last_ones(self):
        for gate in [("wait", "a", "b", 2), ("hold", "a", "b", 2, 1), ("hold", "a", "b", 2, 2), ("lag", "a", "b", 2)]:
            web = Web([("a", "x")], [gate])
            self.assertEqual(self.check(web, "b", (0,)), "rises")
            self.assertEqual(self.check(web, "b", (8,)), "falls")

    def test_a_lane_that_never_carries(self):
        web = Web([("a", "x-")], [("deal", "a", "b", "c", "l")])
        self.assertTrue(equal_kinds(rises(web, "c"), ("rises", [(0, ((0,),), (None,), 0), (1, ((0,),), (None,), 0)])))

    def test_several_inlets(self):
        web = Web([("a", "x"), ("b", "x")], [("cross", "a", "b", "c", "d")])
        for lane in "cd":
            self.assertEqual(self.check(web, lane, (0, 0)), "rises")
            for kinds in [(1, 0), (0, 1), None, (None, 0), (0, None)]:
                self.assertEqual(self.check(web, lane, kinds), "falls")
        self.assertEqual(self.check(web, "a", (0, 8)), "rises")
        self.assertEqual(self.check(web, "b", (0, 8)), "falls")
        self.assertEqual(self.check(web, "b", (None, 0)), "rises")

    def test_all_noughts_and_ones_beat_by_beat(self):
        luck, many = luck_of(81), {True: 0, False: 0}
        for _ in range(120):
            web = made_web(luck, luck.randint(0, 3), most=4)
            if refusal(rises, web, web.lanes()[0]) is not None:
                continue
            lane, kinds = luck.choice(web.lanes()), made_kinds(luck, web)
            place = web.lanes().index(lane)
            told = rises(web, lane, kinds=kinds)
            level, falls = [Bits([web], kinds)], None
            for beat in range(1, 9):
                level = [other for one in level for _, other in one.nexts()]
                if any(fell(place)(bits) is not None for bits in level):
                    falls = beat
                    break
                if len(level) > 300:
                    break
            if falls:
                self.assertEqual(told[:2], ("falls", falls))
            else:
                self.assertTrue(told[0] == "rises" or told[1] > beat)
            many[falls is None] += 1
        self.assertTrue(min(many.values()) > 20, many)

    def test_by_hand(self):
        luck, many = luck_of(82), {}
        for _ in range(500):
            web = made_web(luck, luck.randint(0, 4), most=luck.choice([2, 4, 7]))
            lane = luck.choice(web.lanes())
            if refusal(rises, web, lane) is not None:
                continue
            kinds = luck.choice([None, made_kinds(luck, web), [luck.randint(0, 2) for _ in web.inlets()]])
            word = self.check(web, lane, kinds)
            many[word] = many.get(word, 0) + 1
        self.assertTrue(many["rises"] > 40 and many["falls"] > 100, many)


class Many(unittest.TestCase):
    def test_just_2000_and_more(self):
        word, lot = rises(JUST_2000, "c", kinds=(8, 8))
        self.assertEqual((word, len(lot), len(set(lot))), ("rises", 2000, 2000))
        self.assertEqual(refusal(rises, JUST_2001, "d"), (TooMany, STANDS))
        self.assertEqual(refusal(rises, Web([("a", "x")], [("wait", "a", "b", 11), ("deal", "b", "c", "d", "l")]), "d"),
                         (TooMany, STANDS))

    def test_as_many_ahead_of_a_fall(self):
        web, kinds = FALLS_2000
        self.assertEqual(rises(web, "d", kinds=kinds)[0], "falls")
        web, kinds = FALLS_2001
        self.assertEqual(refusal(rises, web, "d", kinds=kinds), (TooMany, STANDS))

    def test_a_fall_ahead_of_too_many(self):
        self.assertEqual(rises(Web([("a", "x")], [("wait", "a", "b", 12)]), "a")[:2], ("falls", 2))
        self.assertEqual(rises(Web([("a", "x")], [("wait", "a", "b", 9)]), "b")[:2], ("falls", 11))
        self.assertEqual(refusal(rises, Web([("a", "x")], [("wait", "a", "b", 10)]), "b"), (TooMany, STANDS))


class Refused(unittest.TestCase):
    def raised(self, kind, *told, **more):
        with self.assertRaises(kind) as caught:
            rises(*told, **more)
        self.assertIs(type(caught.exception), kind)
        return list(vars(caught.exception).values())

    def test_no_lane_of_anything_ahead_of_all(self):
        for thing in anything() + ["zz"]:
            if isinstance(thing, str) and thing in ("a", "b", "c"):
                continue
            for web in [HOLD, JAMS]:
                for kinds in [None, (9,), thing]:
                    self.assertTrue(equal_kinds(self.raised(NoLane, web, thing, kinds=kinds), [thing]))

    def test_no_kind_of_anything(self):
        for web in [HOLD, JAMS, Web([("a", "x"), ("b", "x")], jam_at(601).gates())]:
            many = len(web.inlets())
            for thing in anything():
                for kinds in [thing, (thing,) * many, [0] * (many - 1) + [thing]]:
                    fits = kinds is None or isinstance(kinds, (list, tuple)) and len(kinds) == many and all(
                        part is None or type(part) is int and 0 <= part <= 8 for part in kinds)
                    if not fits:
                        self.assertTrue(equal_kinds(self.raised(NoKind, web, "a", kinds=kinds), [kinds]))
            for kinds in [(), (0,) * (many + 1), (9,) * many, (-1,) * many, [None] * (many + 1)]:
                self.assertTrue(equal_kinds(self.raised(NoKind, web, "a", kinds=kinds), [kinds]))

    def test_jams_and_too_long(self):
        more = [*round_of_600().gates(), ("lag", "c", "l", 3)]
        for web, due in [(JAMS, (Jams, 2)), (jam_at(600), (Jams, 600)), (jam_at(601), (TooLong, 600)),
                         (Web(round_of_600().inlets(), more), (TooLong, 600))]:
            for lane in web.lanes():
                # Though an inlet falls at beat 2.
                self.assertEqual(refusal(rises, web, lane), due)
                self.assertEqual(refusal(rises, web, lane, kinds=(0,) * len(web.inlets())), due)
