import unittest

from holdgates.alike import alike
from holdgates.bounds import STANDS
from holdgates.errors import Jams, NoKind, NoLane, OtherInlets, TooLong, TooMany
from holdgates.feeds import cut
from holdgates.kin import renamed
from holdgates.likes import is_of
from holdgates.plain import plain
from holdgates.webs import Web
from tests.helper import (JUST_2000, JUST_2001, LINE, Bits, anything, equal_kinds, gone_through, jam_at, luck_of,
                          made_kinds, made_web, other_of, refusal, round_of_600, run_by_hand, unchanged)

# Waits of one and two do what one of three does; so do holds that let the least go.
THREE = Web([("a", "x")], [("wait", "a", "b", 3)])
ONE_TWO = Web([("a", "x")], [("wait", "a", "c", 1), ("wait", "c", "b", 2)])
LEAST = Web([("a", "x")], [("hold", "a", "b", 2, 0)])
LEASTS = Web([("a", "x")], [("hold", "a", "c", 1, 0), ("hold", "c", "b", 1, 0)])
JAMS = Web([("a", "x"), ("b", "x")], [("join", "a", "b", "c", 1)])
JAMS_LATER = Web([("a", "x"), ("b", "x")], [("join", "a", "b", "c", 3)])
FREE = Web([("a", "x"), ("b", "x")])


def first_apart(couples, places):
    """Of webs by hand the least couple that carries unlike things at the last beat, or None."""
    def told(bits):
        one, other = bits.seen[-1]
        for number, (place, spot) in enumerate(places):
            if one[place] != other[spot]:
                return number
        return None
    return told


def places_of(one, other, couples):
    return [(one.lanes().index(lane), other.lanes().index(spot)) for lane, spot in couples]


class Alike(unittest.TestCase):
    def check(self, one, other, couples, kinds):
        """Checks an answer against a going by hand, and tells its word; None where there is too much to go through."""
        places = places_of(one, other, couples)
        gone = gone_through(Bits([one, other], kinds), Bits.stand, first_apart(couples, places))
        if gone is None:
            return None
        found, ended = gone
        told = unchanged(lambda *all_told: alike(*all_told, kinds=kinds), one, other, couples)
        if not ended:
            self.assertTrue(equal_kinds(told[0], "alike"))
            self.assertIsInstance(told[1], list)
            self.assertEqual(len(told[1]), len(found))
            self.assertTrue(equal_kinds(sorted(told[1], key=repr), sorted(found, key=repr)))
            self.assertEqual(len(told), 2)
            return "alike"
        word, beat, number, feed = told
        due = min(first_apart(couples, places)(bits) for bits in ended)
        self.assertTrue(equal_kinds((word, beat, number), ("parts", len(ended[0].seen), due)))
        self.check_feed(one, other, places[number], kinds, beat, feed)
        return "parts"

    def check_feed(self, one, other, couple, kinds, beat, feed):
        self.assertTrue(equal_kinds(feed, tuple(tuple(int(bit) for bit in row) for row in feed)))
        self.assertTrue(all(bit in (0, 1) for row in feed for bit in row))
        self.assertEqual(cut(one, feed, beat), feed)
        self.assertIs(is_of(one, kinds, feed), True)
        rows, shown = run_by_hand(one, feed, beat), run_by_hand(other, feed, beat)
        self.assertNotEqual(rows[-1][couple[0]], shown[-1][couple[1]])

    def test_webs_that_do_the_same_by_other_gates(self):
        for one, other in [(THREE, ONE_TWO), (ONE_TWO, THREE), (LEAST, LEASTS), (LEASTS, LEAST)]:
            self.assertEqual(self.check(one, other, [("b", "b")], None), "alike")
            self.assertEqual(self.check(one, other, (("a", "a"), ("b", "b")), (2,)), "alike")
        self.assertEqual(self.check(THREE, LEASTS, [("a", "a")], None), "alike")
        self.assertEqual(self.check(THREE, LEASTS, [], None), "alike")
        told = alike(one=LINE, other=LINE, couples=[("a", "a")])
        self.assertTrue(equal_kinds(told, ("alike", [(0, (), (), (None,))])))

    def test_webs_that_part(self):
        wait = Web([("a", "x")], [("wait", "a", "b", 2)])
        self.assertEqual(self.check(wait, LEAST, [("b", "b")], None), "parts")
        self.assertEqual(alike(wait, LEAST, [("b", "b")])[1], 3)
        self.assertTrue(equal_kinds(alike(THREE, ONE_TWO, [("b", "b"), ("b", "c")])[:3], ("parts", 2, 1)))
        self.assertTrue(equal_kinds(alike(THREE, ONE_TWO, [("b", "c"), ("b", "b")])[:3], ("parts", 2, 0)))

    def test_the_first_beat_ahead_of_the_least_place(self):
        one = Web([("a", "x")], [("deal", "a", "b", "c", "lrl")])
        other = Web([("a", "x")], [("deal", "a", "b", "c", "lrr")])
        self.assertEqual(alike(one, other, [("b", "b")])[1:3], (3, 0))
        self.assertEqual(alike(one, other, [("a", "a"), ("c", "c"), ("b", "b")])[1:3], (3, 1))
        self.assertEqual(alike(one, other, [("b", "b"), ("c", "b")])[1:3], (1, 1))
        self.assertEqual(alike(one, other, [("c", "b"), ("b", "c"), ("a", "b")])[1:3], (1, 0))

    def test_the_least_place_of_all_feeds(self):
        # By any choices at beat 1 one couple parts: by (0, 1) the first one, by (1, 0) the second.
        one = Web([("a", "x"), ("b", "x")], [("cross", "a", "b", "c", "d")])
        for couples, due in [([("c", "a"), ("d", "a")], 0), ([("d", "a"), ("c", "a")], 0), ([("a", "a"), ("d", "a")], 1)]:
            self.assertEqual(alike(one, FREE, couples)[1:3], (1, due))
            self.assertEqual(self.check(one, FREE, couples, None), "parts")

    def test_kinds_make_webs_alike(self):
        # Fed by what rises, a hold that lets the least go is as a wait.
        wait = Web([("a", "x")], [("wait", "a", "b", 2)])
        self.assertEqual(self.check(wait, LEAST, [("b", "b")], (0,)), "alike")
        for kind in [1, 2, 8, None]:
            self.assertEqual(self.check(wait, LEAST, [("b", "b")], (kind,)), "parts")
        two = Web([("a", "x"), ("b", "x")], [("hold", "a", "c", 1, 0), ("hold", "b", "d", 1, 0)])
        other = Web([("a", "x"), ("b", "x")], [("wait", "a", "c", 1), ("wait", "b", "d", 1)])
        for kinds, due in [((0, 0), None), ((0, 1), 1), ((1, 0), 0), ((None, 0), 0), ((0, None), 1), ([2, 2], 0)]:
            told = alike(two, other, [("c", "c"), ("d", "d")], kinds=kinds)
            self.assertEqual(told[0] == "alike", due is None)
            if due is not None:
                self.assertEqual(told[1:3], (2, due))
            self.assertEqual(self.check(two, other, [("c", "c"), ("d", "d")], kinds), told[0])

    def test_marks(self):
        for kind in range(9):
            lot = alike(LINE, LINE, [("a", "a")], kinds=[kind])[1]
            self.assertEqual(sorted(lot, key=repr), sorted([(0, (), (), (mark,)) for mark in [None, *range(kind + 1)]], key=repr))

    def test_by_hand(self):
        luck, many = luck_of(71), {}
        for turn in range(700):
            web = made_web(luck, luck.randint(0, 4), most=luck.choice([2, 4, 6]))
            other = other_of(luck, web)
            if turn % 7 == 0:
                other = plain(web)
            if web.inlets() != other.inlets() or refusal(alike, web, other, []) is not None:
                continue
            lanes = [lane for lane in web.lanes() if lane in other.lanes()]
            couples = [(lane, lane) for lane in luck.sample(lanes, luck.randint(0, len(lanes)))]
            if turn % 5 == 0:
                couples.append((luck.choice(web.lanes()), luck.choice(other.lanes())))
            word = self.check(web, other, couples, luck.choice([None, made_kinds(luck, web), made_kinds(luck, web)]))
            many[word] = many.get(word, 0) + 1
        self.assertTrue(many["alike"] > 60 and many["parts"] > 60, many)

    def test_renamed(self):
        luck, many = luck_of(72), 0
        for _ in range(40):
            web = made_web(luck, luck.randint(1, 3), most=3)
            if refusal(alike, web, web, []) is not None:
                continue
            lanes = web.lanes()
            inlets = len(web.inlets())
            names = dict(zip(lanes, lanes[:inlets] + lanes[inlets:][::-1]))
            other = renamed(web, names)
            self.assertIn(self.check(web, other, [(lane, names[lane]) for lane in lanes], None), ("alike", None))
            many += 1
        self.assertTrue(many > 20)


class Many(unittest.TestCase):
    def test_just_2000_and_more(self):
        for couples in [[], [("c", "c"), ("a", "a")]]:
            word, lot = alike(JUST_2000, JUST_2000, couples, kinds=(8, 8))
            self.assertEqual((word, len(lot), len(set(lot))), ("alike", 2000, 2000))
            self.assertEqual(refusal(alike, JUST_2001, JUST_2001, couples[:0]), (TooMany, STANDS))

    def test_as_many_by_fewer_beats_than_part_them(self):
        # First d carries what is unlike where 2000, and 2001, were come to by fewer beats.
        for inlets, due in [([("a", "-xx---"), ("b", "---x")], None), ([("a", "x----x"), ("b", "-xxx")], (TooMany, STANDS))]:
            one = Web(inlets, [("hold", "a", "d", 6, 0)])
            other = Web(inlets, [("wait", "a", "d", 6)])
            self.assertEqual(refusal(alike, one, other, [("d", "d")], kinds=(6, 5)), due)
            if due is None:
                self.assertEqual(alike(one, other, [("d", "d")], kinds=(6, 5))[0], "parts")
            self.assertEqual(alike(one, other, [("d", "a"), ("a", "a")], kinds=(6, 5))[0], "parts")

    def test_parted_ahead_of_too_many(self):
        one = Web([("a", "x")], [("wait", "a", "b", 9), ("deal", "b", "c", "d", "l")])
        other = Web([("a", "x")], [("wait", "a", "b", 9), ("deal", "b", "c", "d", "r")])
        self.assertEqual(alike(one, other, [("d", "c"), ("c", "c")])[:3], ("parts", 10, 1))
        self.assertEqual(alike(one, other, [("b", "b")])[0], "alike")
        longer = Web([("a", "x")], [("wait", "a", "b", 10)])
        self.assertEqual(refusal(alike, longer, longer, [("b", "b")]), (TooMany, STANDS))


class Refused(unittest.TestCase):
    def raised(self, kind, *told, **more):
        with self.assertRaises(kind) as caught:
            alike(*told, **more)
        self.assertIs(type(caught.exception), kind)
        return list(vars(caught.exception).values())

    def test_other_inlets_ahead_of_all(self):
        for other in [Web([("b", "x")]), Web([("a", "xx")]), Web([("a", "x-")]), Web([("a", "x"), ("b", "x")]),
                      Web([("b", "x")], [("wait", "b", "a", 1)])]:
            for couples in [[], [("a", "a")], [("z", None)]]:
                self.assertEqual(self.raised(OtherInlets, LINE, other, couples, kinds=(9,)), [])
                self.assertEqual(self.raised(OtherInlets, other, LINE, couples), [])
        turned = Web([("b", "x"), ("a", "x")])
        self.assertEqual(self.raised(OtherInlets, FREE, turned, []), [])
        self.assertEqual(self.raised(OtherInlets, JAMS, turned, []), [])

    def test_no_lane_of_anything(self):
        for thing in anything() + ["zz"]:
            if isinstance(thing, str) and thing in ("a", "b", "c"):
                continue
            for couples, due in [([(thing, "a")], thing), ([("a", thing)], thing), ([("a", "a"), ("b", thing)], thing),
                                 (((thing, None),), thing), ([("a", "b"), (thing, "zz"), ("zz", "zz")], thing)]:
                for one, other in [(THREE, THREE), (JAMS, JAMS)]:
                    for kinds in [None, 9]:
                        told = self.raised(NoLane, one, other, couples, kinds=kinds)
                        self.assertTrue(equal_kinds(told, [due]))

    def test_each_lane_in_its_own_web(self):
        self.assertEqual(self.raised(NoLane, THREE, ONE_TWO, [("c", "b")]), ["c"])
        self.assertEqual(self.raised(NoLane, THREE, ONE_TWO, [("b", "c"), ("c", "z")]), ["c"])
        self.assertEqual(self.raised(NoLane, ONE_TWO, THREE, [("c", "c"), ("z", "c")]), ["c"])
        self.assertEqual(self.raised(NoLane, ONE_TWO, THREE, [("c", "b"), ("z", "c")]), ["z"])

    def test_no_kind_of_anything_ahead_of_jams(self):
        long_one = Web(round_of_600().inlets(), [*round_of_600().gates(), ("lag", "c", "l", 1)])
        for web in [JAMS, THREE, long_one]:
            many = len(web.inlets())
            for thing in anything():
                if thing is None or (isinstance(thing, (list, tuple)) and len(thing) == many
                                     and all(part is None or type(part) is int and 0 <= part <= 8 for part in thing)):
                    continue
                self.assertTrue(equal_kinds(self.raised(NoKind, web, web, [("a", "a")], kinds=thing), [thing]))
            for kinds in [(1,) * (many + 1), (9,) * many, (True,) * many, [-1] * many, ()]:
                self.assertTrue(equal_kinds(self.raised(NoKind, web, web, [], kinds=kinds), [kinds]))

    def test_jams_and_too_long_of_the_one_then_of_the_other(self):
        late = Web(FREE.inlets(), jam_at(600).gates())
        later = Web(FREE.inlets(), jam_at(601).gates())
        for one, other, due in [(JAMS, JAMS_LATER, (Jams, 2)), (JAMS_LATER, JAMS, (Jams, 4)), (FREE, JAMS, (Jams, 2)),
                                (JAMS, FREE, (Jams, 2)), (late, JAMS, (Jams, 600)), (later, JAMS, (TooLong, 600)),
                                (JAMS, later, (Jams, 2)), (FREE, later, (TooLong, 600))]:
            self.assertEqual(refusal(alike, one, other, [("a", "a")]), due)
            # Though they part at beat 1.
            self.assertEqual(refusal(alike, one, other, [("a", "b")]), due)
