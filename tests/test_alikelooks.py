import unittest

from holdgates.alike import alike
from holdgates.alikelooks import shows_alike
from holdgates.errors import Jams, NoKind, NoLane, OtherInlets, TooLong
from holdgates.plain import plain
from holdgates.webs import Web
from tests.helper import (JUST_2000, LINE, Bits, anything, bits_at, equal_kinds, is_lot, is_node, is_shown, jam_at,
                          luck_of, made_feed_of, made_kinds, made_web, refusal, run_by_hand, some_spoilt, unchanged)

LEAST = Web([("a", "x")], [("hold", "a", "b", 2, 0)])
LEASTS = Web([("a", "x")], [("hold", "a", "c", 1, 0), ("hold", "c", "b", 1, 0)])
WAIT = Web([("a", "x")], [("wait", "a", "b", 2)])
JAMS = Web([("a", "x"), ("b", "x")], [("join", "a", "b", "c", 1)])
FREE = Web([("a", "x"), ("b", "x")])
# b never carries, a at each odd beat.
ODD = Web([("a", "x-")], [("deal", "a", "c", "b", "l")])


def shown(one, other, couples, thing, kinds):
    """Whether a look shows a thing, by the document's words."""
    places = [(one.lanes().index(lane), other.lanes().index(spot)) for lane, spot in couples]
    if type(thing) is not tuple or len(thing) not in (2, 4):
        return False
    if len(thing) == 2:
        def step(bits, more):
            rows = bits.seen[-1]
            return () if all(rows[0][place] == rows[1][spot] for place, spot in places) else None
        return thing[0] == "alike" and is_lot([one, other], kinds, thing[1], lambda more: True, (), step)
    word, beat, number, feed = thing
    if word != "parts" or type(number) is not int or not 0 <= number < len(couples):
        return False
    if not is_shown(one, kinds, beat, feed):
        return False
    place, spot = places[number]
    return run_by_hand(one, feed, beat)[-1][place] != run_by_hand(other, feed, beat)[-1][spot]


class Shows(unittest.TestCase):
    def check(self, one, other, couples, thing, kinds, due=None):
        told = unchanged(lambda *all_told: shows_alike(*all_told, kinds=kinds), one, other, couples, thing)
        self.assertIs(told, shown(one, other, couples, thing, kinds), thing)
        if due is not None:
            self.assertIs(told, due, thing)
        return told

    def test_told_answers_and_spoilt_ones(self):
        luck = luck_of(101)
        cases = [(LEAST, LEASTS, [("b", "b")], None), (LEAST, LEASTS, [("b", "b"), ("a", "a")], (1,)),
                 (LEAST, WAIT, [("a", "a"), ("b", "b")], (2,)), (LEAST, WAIT, [("b", "b")], [0]),
                 (LINE, LINE, [("a", "a")], (2,)), (LINE, LINE, [], None), (ODD, ODD, [("a", "b")], None)]
        for one, other, couples, kinds in cases:
            answer = alike(one, other, couples, kinds=kinds)
            self.check(one, other, couples, answer, kinds, True)
            right = 0
            for thing in some_spoilt(luck, answer, 900):
                right += self.check(one, other, couples, thing, kinds)
            self.assertTrue(right < 100, right)
            for thing in anything():
                self.check(one, other, couples, thing, kinds, False)

    def test_lots_in_another_order(self):
        luck = luck_of(102)
        word, lot = alike(LEAST, LEASTS, [("b", "b")], kinds=(3,))
        for _ in range(10):
            luck.shuffle(lot)
            self.assertIs(shows_alike(one=LEAST, other=LEASTS, couples=(("b", "b"),), thing=(word, lot), kinds=[3]), True)
        self.assertIs(shows_alike(LEAST, LEASTS, [("b", "b")], (word, lot), kinds=(4,)), False)
        self.assertIs(shows_alike(LEAST, LEASTS, [("b", "b")], (word, lot)), False)
        self.assertIs(shows_alike(LEAST, LEASTS, [("b", "b")], (word, tuple(lot)), kinds=(3,)), False)
        self.assertIs(shows_alike(LEAST, LEASTS, [("b", "b")], [word, lot], kinds=(3,)), False)
        self.assertIs(shows_alike(LEAST, LEASTS, [("b", "b")], (word, lot, None), kinds=(3,)), False)

    def test_one_more_one_fewer_one_twice(self):
        couples = [("b", "b"), ("a", "a")]
        word, lot = alike(LEAST, LEASTS, couples)
        for at, node in enumerate(lot):
            self.check(LEAST, LEASTS, couples, (word, lot[:at] + lot[at + 1:]), None, False)
            self.check(LEAST, LEASTS, couples, (word, lot + [node]), None, False)
        for node in [(0, ((0, 0),), ((0,), (1,)), (None,)), (0, ((0, 1),), ((0,), (0,)), (None,))]:
            self.assertNotIn(node, lot)
            self.check(LEAST, LEASTS, couples, (word, lot + [node]), None, False)
        self.check(LEAST, LEASTS, couples, (word, []), None, False)

    def test_what_nothing_leads_to(self):
        # More that is fed out and never comes again, and leads to what is there.
        luck, many = luck_of(103), 0
        one = Web([("a", "x")], [("lag", "a", "b", 2)])
        for kinds in [None, (1,), (3,)]:
            word, lot = alike(one, one, [("a", "a")], kinds=kinds)
            for node in [(0, ((0, None),), ((1, None),), (None,)), (0, ((None, 1),), ((0, 0),), (None,)),
                         (0, ((0, 1),), ((None, None),), (None,))]:
                more, line = list(lot), [node]
                while line:
                    fresh = line.pop()
                    if fresh not in more:
                        more.append(fresh)
                        line.extend(other.stand() for _, other in bits_at([one, one], kinds, fresh).nexts())
                luck.shuffle(more)
                self.assertTrue(len(more) > len(lot))
                self.check(one, one, [("a", "a")], (word, more), kinds, True)
                many += self.check(one, one, [("b", "b")], (word, more), kinds)
                more.remove(luck.choice([other for other in more if other != node and other not in lot] or [lot[0]]))
                self.check(one, one, [("a", "a")], (word, more), kinds)
        self.assertTrue(many < 3)

    def test_other_marks(self):
        for kinds in [(0,), (1,), (8,)]:
            word, lot = alike(LINE, LINE, [("a", "a")], kinds=kinds)
            self.check(LINE, LINE, [("a", "a")], (word, lot), kinds, True)
            for mark in [kinds[0] + 1, -1, True, False, "0", (0,)]:
                self.check(LINE, LINE, [("a", "a")], (word, lot + [(0, (), (), (mark,))]), kinds, False)
                spoiled = [(0, (), (), (mark,)) if node[3] == (0,) else node for node in lot]
                self.check(LINE, LINE, [("a", "a")], (word, spoiled), kinds, False)
        self.check(LINE, LINE, [], ("alike", [(0, (), (), (None,)), (0, (), (), (0,))]), None, False)

    def test_nodes_that_can_not_be(self):
        luck = luck_of(104)
        for _ in range(60):
            web = made_web(luck, luck.randint(0, 3), most=3)
            kinds = luck.choice([None, made_kinds(luck, web)])
            if refusal(alike, web, web, [], kinds=kinds):
                continue
            word, lot = alike(web, web, [], kinds=kinds)
            if len(lot) > 60:
                continue
            self.check(web, web, [], (word, lot), kinds, True)
            for at in {0, len(lot) // 2, len(lot) - 1}:
                for node in some_spoilt(luck, lot[at], 25):
                    self.check(web, web, [], (word, lot + [node]), kinds)
                    if not is_node([web, web], kinds, node):
                        self.assertIs(shows_alike(web, web, [], (word, lot + [node]), kinds=kinds), False)
                    self.check(web, web, [], (word, lot[:at] + [node] + lot[at + 1:]), kinds)

    def test_other_feeds_that_part(self):
        luck, many = luck_of(105), {True: 0, False: 0}
        for _ in range(400):
            kinds = luck.choice([None, (1,), (3,)])
            beat = luck.randint(1, 9)
            feed = made_feed_of(luck, LEAST, luck.choice([None, kinds]), beat)
            couples = [("a", "a"), ("b", "b"), ("a", "b")]
            many[self.check(LEAST, WAIT, couples, ("parts", beat, luck.randint(0, 2), feed), kinds)] += 1
        self.assertTrue(min(many.values()) > 60, many)

    def test_any_numbers(self):
        for feed, due in [(((7, -3, 10 ** 12),), True), (((-3, 7, 10 ** 12),), False), (((7, 7, 7),), False),
                          (((7, -3, 10 ** 12 + 1),), False), (((7, -3),), False), (((7, -3, 9, 9),), False),
                          (([7, -3, 9],), False), ([(7, -3, 9)], False), (((7, -3, True),), False), (((7, 6, 5), ()), False),
                          (((7, 6, None),), False), (None, False), ((), False)]:
            self.check(LEAST, WAIT, [("b", "b")], ("parts", 3, 0, feed), None, due)
        self.check(LEAST, WAIT, [("b", "b")], ("parts", 3, 0, ((7, 6, 5),)), (1,), False)
        self.check(LEAST, WAIT, [("b", "b")], ("parts", 3, 0, ((7, 6, 7),)), (1,), True)

    def test_nothing_is_unlike_something(self):
        for couples, due in [([("a", "b")], True), ([("b", "a")], True), ([("b", "b")], False), ([("a", "c")], False)]:
            self.check(ODD, ODD, couples, ("parts", 1, 0, ((0,),)), None, due)
            self.check(ODD, ODD, couples, ("parts", 2, 0, ((0,),)), None, False)

    def test_places_of_couples(self):
        couples = [("b", "b"), ("a", "b")]
        for number, due in [(0, False), (1, True), (2, False), (-1, False), (True, False), (None, False), ("1", False)]:
            self.check(ODD, ODD, couples, ("parts", 1, number, ((0,),)), None, due)
        self.check(ODD, ODD, [], ("parts", 1, 0, ((0,),)), None, False)

    def test_beats_to_2001(self):
        for beat, due in [(1999, True), (2000, False), (2001, True), (2003, False), (0, False), (True, False)]:
            feed = (tuple([5] * ((beat + 1) // 2)),)
            self.check(ODD, ODD, [("a", "b")], ("parts", beat, 0, feed), None, due)
        even = Web([("a", "-x")], [("deal", "a", "c", "b", "l")])
        for beat, due in [(2000, True), (2002, False)]:
            self.assertIs(shows_alike(even, even, [("a", "b")], ("parts", beat, 0, ((5,) * (beat // 2),))), due)
        # Of each beat one number there can't be 2001 of a row.
        web = Web([("a", "x")], [("deal", "a", "c", "b", "l")])
        self.assertIs(shows_alike(web, web, [("a", "b")], ("parts", 2000, 0, ((5,) * 2000,))), True)
        self.assertIs(shows_alike(web, web, [("a", "b")], ("parts", 2001, 0, ((5,) * 2001,))), False)
        self.assertIs(shows_alike(web, web, [("a", "b")], ("parts", 2001, 0, ((5,) * 2000,))), False)

    def test_answers_of_made_webs(self):
        luck, many = luck_of(106), {"alike": 0, "parts": 0}
        for _ in range(200):
            web = made_web(luck, luck.randint(1, 4), most=4)
            other = plain(web) if luck.random() < 0.5 else web
            kinds = luck.choice([None, made_kinds(luck, web)])
            if web.inlets() != other.inlets() or refusal(alike, web, other, [], kinds=kinds):
                continue
            couples = [(luck.choice(web.lanes()),) * 2 for _ in range(2)]
            if luck.random() < 0.5 or any(lane not in other.lanes() for lane, _ in couples):
                couples = [(luck.choice(web.lanes()), luck.choice(other.lanes()))]
            answer = alike(web, other, couples, kinds=kinds)
            many[answer[0]] += 1
            self.assertIs(shows_alike(web, other, couples, answer, kinds=kinds), True)
            if answer[0] == "parts":
                beat, feed = answer[1], answer[3]
                self.check(web, other, couples, ("parts", beat + 1, *answer[2:]), kinds)
                for thing in some_spoilt(luck, answer, 30):
                    self.check(web, other, couples, thing, kinds)
                self.check(web, other, couples, ("parts", beat, 0, feed[:-1] + (feed[-1] + (0,),)), kinds, False)
            else:
                lot = answer[1]
                lot.remove(luck.choice(lot))
                self.assertIs(shows_alike(web, other, couples, answer, kinds=kinds), False)
        self.assertTrue(min(many.values()) > 30, many)

    def test_just_2000_and_more(self):
        answer = alike(JUST_2000, JUST_2000, [("c", "c")], kinds=(8, 8))
        self.assertIs(shows_alike(JUST_2000, JUST_2000, [("c", "c")], answer, kinds=(8, 8)), True)
        self.assertIs(shows_alike(JUST_2000, JUST_2000, [("c", "a")], answer, kinds=(8, 8)), False)
        # A lot of more than STANDS, gone through by hand.
        wait = Web([("a", "x")], [("wait", "a", "b", 10)])
        lot, level = [], [Bits([wait, wait])]
        for _ in range(11):
            lot.extend(bits.stand() for bits in level)
            level = [other for bits in level for _, other in bits.nexts()]
        self.assertEqual(len(lot), 2047)
        self.assertIs(shows_alike(wait, wait, [("b", "b")], ("alike", lot)), True)
        self.assertIs(shows_alike(wait, wait, [("b", "b")], ("alike", lot[:-1])), False)


class Refused(unittest.TestCase):
    def raised(self, kind, *told, **more):
        with self.assertRaises(kind) as caught:
            shows_alike(*told, **more)
        self.assertIs(type(caught.exception), kind)
        return list(vars(caught.exception).values())

    def test_as_the_answer_whatever_the_thing(self):
        right = alike(LEAST, LEASTS, [("b", "b")])
        for thing in [right, None, ("parts", 1, 0, ((0,),)), 5]:
            self.assertEqual(self.raised(OtherInlets, LEAST, FREE, [("z", 1)], thing, kinds=9), [])
            for lane in anything():
                if lane not in ("a", "b"):
                    told = self.raised(NoLane, LEAST, LEASTS, [("b", "b"), ("b", lane)], thing, kinds=9)
                    self.assertTrue(equal_kinds(told, [lane]))
            self.assertEqual(self.raised(NoLane, JAMS, JAMS, [("z", "y")], thing, kinds=9), ["z"])
            for kinds in [(), (9,), (True,), 0, (0, 0), "a", [[1]]]:
                self.assertTrue(equal_kinds(self.raised(NoKind, LEAST, LEASTS, [("b", "b")], thing, kinds=kinds), [kinds]))
            self.assertEqual(self.raised(NoKind, JAMS, JAMS, [], thing, kinds=(1,)), [(1,)])
            self.assertEqual(refusal(shows_alike, FREE, JAMS, [], thing), (Jams, 2))
            self.assertEqual(refusal(shows_alike, Web(FREE.inlets(), jam_at(601).gates()), JAMS, [], thing), (TooLong, 600))
            self.assertEqual(refusal(shows_alike, JAMS, Web(FREE.inlets(), jam_at(601).gates()), [], thing), (Jams, 2))

    def test_never_too_many(self):
        web = Web([("a", "x")], [("wait", "a", "b", 12)])
        for thing in [None, ("alike", []), ("parts", 1, 0, ((0,),))]:
            self.assertIs(shows_alike(web, web, [("b", "b")], thing), False)
        self.assertIs(shows_alike(web, web, [("b", "a")], ("parts", 1, 0, ((0,),))), True)
