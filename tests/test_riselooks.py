import unittest

from holdgates.errors import Jams, NoKind, NoLane, TooLong
from holdgates.riselooks import shows_rises
from holdgates.rises import rises
from holdgates.webs import Web
from tests.helper import (FALLS_2000, FALLS_2001, JUST_2000, JUST_2001, LINE, Bits, anything, equal_kinds, is_lot,
                          is_shown, jam_at, luck_of, made_feed_of, made_kinds, made_web, refusal, run_by_hand,
                          some_spoilt, unchanged)

HOLD = Web([("a", "x")], [("hold", "a", "b", 2, 0)])
JAMS = Web([("a", "x"), ("b", "x")], [("join", "a", "b", "c", 1)])


def shown(web, lane, thing, kinds):
    """Whether a look shows a thing, by the document's words."""
    place = web.lanes().index(lane)
    if type(thing) is not tuple or len(thing) not in (2, 3):
        return False
    if len(thing) == 2:
        def is_high(more):
            return len(more) == 1 and type(more[0]) is int and more[0] in (0, 1)

        def step(bits, more):
            token = bits.seen[-1][0][place]
            if token == 0 and more == (1,):
                return None
            return (1,) if token == 1 else more
        return thing[0] == "rises" and is_lot([web], kinds, thing[1], is_high, (0,), step)
    word, beat, feed = thing
    if word != "falls" or not is_shown(web, kinds, beat, feed):
        return False
    row = [row[place] for row in run_by_hand(web, feed, beat)]
    return row[-1] is not None and any(token is not None and token > row[-1] for token in row)


class Shows(unittest.TestCase):
    def check(self, web, lane, thing, kinds, due=None):
        told = unchanged(lambda *all_told: shows_rises(*all_told, kinds=kinds), web, lane, thing)
        self.assertIs(told, shown(web, lane, thing, kinds), thing)
        if due is not None:
            self.assertIs(told, due, thing)
        return told

    def test_told_answers_and_spoilt_ones(self):
        luck = luck_of(111)
        two = Web([("a", "x"), ("b", "-x")], [("join", "a", "b", "c", 0)])
        for web, lane, kinds in [(HOLD, "b", (2,)), (HOLD, "b", (3,)), (HOLD, "b", [1]), (HOLD, "b", None),
                                 (LINE, "a", (0,)), (LINE, "a", None), (HOLD, "a", (0,))]:
            answer = rises(web, lane, kinds=kinds)
            self.check(web, lane, answer, kinds, True)
            right = 0
            for thing in some_spoilt(luck, answer, 900):
                right += self.check(web, lane, thing, kinds)
            self.assertTrue(right < 60, right)
            for thing in anything():
                self.check(web, lane, thing, kinds, False)
        self.assertEqual(refusal(rises, two, "c"), (Jams, 2))

    def test_lots_in_another_order(self):
        luck = luck_of(112)
        word, lot = rises(HOLD, "b", kinds=(2,))
        for _ in range(10):
            luck.shuffle(lot)
            self.assertIs(shows_rises(web=HOLD, lane="b", thing=(word, lot), kinds=[2]), True)
        for kinds in [None, (1,), (3,)]:
            self.assertIs(shows_rises(HOLD, "b", (word, lot), kinds=kinds), False)
        self.assertIs(shows_rises(HOLD, "b", (word, tuple(lot)), kinds=(2,)), False)
        self.assertIs(shows_rises(HOLD, "b", [word, lot], kinds=(2,)), False)

    def test_one_more_one_fewer_one_twice(self):
        word, lot = rises(HOLD, "b", kinds=(2,))
        for at, node in enumerate(lot):
            self.check(HOLD, "b", (word, lot[:at] + lot[at + 1:]), (2,), False)
            self.check(HOLD, "b", (word, lot + [node]), (2,), False)
            for high in [1 - node[3], 2, -1, True, False, None, "1"]:
                self.check(HOLD, "b", (word, lot[:at] + [node[:3] + (high,)] + lot[at + 1:]), (2,), False)
                self.check(HOLD, "b", (word, lot + [node[:3] + (high,)]), (2,))

    def test_what_nothing_leads_to(self):
        # Having carried a one, though none came: of these all that follows is there, and none carries a nought.
        word, lot = rises(LINE, "a", kinds=(0,))
        self.check(LINE, "a", (word, lot + [(0, (), (0,), 0)]), (0,), True)
        self.check(LINE, "a", (word, lot + [(0, (), (None,), 1)]), (0,), False)
        word, lot = rises(HOLD, "b", kinds=(0,))
        self.check(HOLD, "b", (word, lot + [(0, ((1, 1),), (None,), 0)]), (0,), True)
        self.check(HOLD, "b", (word, lot + [(0, ((0, 1),), (0,), 1)]), (0,), False)

    def test_other_feeds_that_fall(self):
        luck, many = luck_of(113), {True: 0, False: 0}
        for _ in range(500):
            kinds = luck.choice([None, (3,), (5,)])
            beat = luck.randint(1, 9)
            feed = made_feed_of(luck, HOLD, luck.choice([None, kinds]), beat)
            many[self.check(HOLD, luck.choice("ab"), ("falls", beat, feed), kinds)] += 1
        self.assertTrue(min(many.values()) > 60, many)

    def test_any_numbers(self):
        for feed, due in [(((5, 6, 7, 4),), True), (((5, 6, 7, 8),), False), (((5, 6, 7, 5),), False),
                          (((-5, 6, -6, -7),), True), (((5, 6, 7, 4, 4),), False), (((5, 6, 7),), False),
                          (([5, 6, 7, 4],), False), ([(5, 6, 7, 4)], False), (((5, 6, 7, 10 ** 12 + 1),), False),
                          (((5, 6, 7, 4), ()), False), (((5, 6, 7, False),), False), (None, False)]:
            self.check(HOLD, "b", ("falls", 4, feed), None, due)
            self.check(HOLD, "b", ("falls", 4, feed), (3,), due)
            self.check(HOLD, "b", ("falls", 4, feed), (2,), False)

    def test_behind_what_it_carried_once(self):
        # Not of the one just ahead: 9, then 3, then 5, which is less than 9.
        self.check(LINE, "a", ("falls", 3, ((9, 3, 5),)), None, True)
        self.check(LINE, "a", ("falls", 3, ((3, 1, 5),)), None, False)
        odd = Web([("a", "x-")])
        self.check(odd, "a", ("falls", 3, ((9, 3),)), None, True)
        self.check(odd, "a", ("falls", 4, ((9, 3),)), None, False)
        self.check(odd, "a", ("falls", 2, ((9,),)), None, False)

    def test_beats_to_2001(self):
        odd = Web([("a", "x-")])
        for beat, due in [(1999, True), (2000, False), (2001, True), (2003, False), (1, False), (0, False)]:
            feed = (tuple([5] * ((beat + 1) // 2 - 1) + [4] * (beat > 0)),)
            self.check(odd, "a", ("falls", beat, feed), None, due)
        even = Web([("a", "-x")])
        for beat, due in [(2000, True), (2002, False)]:
            self.assertIs(shows_rises(even, "a", ("falls", beat, ((5,) * (beat // 2 - 1) + (4,),))), due)
        self.assertIs(shows_rises(LINE, "a", ("falls", 2000, ((5,) * 1999 + (4,),))), True)
        self.assertIs(shows_rises(LINE, "a", ("falls", 2001, ((5,) * 2000 + (4,),))), False)

    def test_answers_of_made_webs(self):
        luck, many = luck_of(114), {"rises": 0, "falls": 0}
        for _ in range(250):
            web = made_web(luck, luck.randint(0, 4), most=4)
            lane, kinds = luck.choice(web.lanes()), luck.choice([None, made_kinds(luck, web)])
            if refusal(rises, web, lane, kinds=kinds):
                continue
            answer = rises(web, lane, kinds=kinds)
            many[answer[0]] += 1
            self.assertIs(shows_rises(web, lane, answer, kinds=kinds), True)
            if answer[0] == "falls":
                for thing in some_spoilt(luck, answer, 30):
                    self.check(web, lane, thing, kinds)
            else:
                lot = answer[1]
                if len(lot) < 100:
                    for node in some_spoilt(luck, luck.choice(lot), 20):
                        self.check(web, lane, ("rises", lot + [node]), kinds)
                lot.remove(luck.choice(lot))
                self.assertIs(shows_rises(web, lane, answer, kinds=kinds), False)
        self.assertTrue(min(many.values()) > 30, many)

    def test_just_2000_and_more(self):
        answer = rises(JUST_2000, "c", kinds=(8, 8))
        self.assertIs(shows_rises(JUST_2000, "c", answer, kinds=(8, 8)), True)
        web, kinds = FALLS_2000
        self.assertIs(shows_rises(web, "d", rises(web, "d", kinds=kinds), kinds=kinds), True)
        # More than STANDS, gone through by hand, of a web whose k never carries.
        never = Web(JUST_2001.inlets(), JUST_2001.gates() + [("deal", "e", "j", "k", "l")])
        found, level = {}, [Bits([never])]
        while level:
            found.update({bits.stand(): bits for bits in level})
            fresh = {other.stand(): other for bits in level for _, other in bits.nexts()}
            level = [fresh[node] for node in fresh if node not in found]
        lot = [(*node, 0) for node in found]
        self.assertEqual(len(lot), 2001)
        self.assertIs(shows_rises(never, "k", ("rises", lot)), True)
        self.assertIs(shows_rises(never, "k", ("rises", lot[1:])), False)
        self.assertIs(shows_rises(never, "a", ("rises", lot)), False)


class Refused(unittest.TestCase):
    def raised(self, kind, *told, **more):
        with self.assertRaises(kind) as caught:
            shows_rises(*told, **more)
        self.assertIs(type(caught.exception), kind)
        return list(vars(caught.exception).values())

    def test_as_the_answer_whatever_the_thing(self):
        for thing in [rises(HOLD, "b"), None, ("rises", []), 5]:
            for web in [HOLD, JAMS]:
                for lane in anything():
                    if lane not in ("a", "b"):
                        self.assertTrue(equal_kinds(self.raised(NoLane, web, lane, thing, kinds=9), [lane]))
            for kinds in [(), (9,), (True,), 0, (0, 0), "a", [[1]], {}]:
                self.assertTrue(equal_kinds(self.raised(NoKind, HOLD, "b", thing, kinds=kinds), [kinds]))
            self.assertEqual(self.raised(NoKind, JAMS, "b", thing, kinds=(1,)), [(1,)])
            self.assertEqual(refusal(shows_rises, JAMS, "a", thing), (Jams, 2))
            self.assertEqual(refusal(shows_rises, jam_at(601), "a", thing), (TooLong, 600))

    def test_never_too_many(self):
        web, kinds = FALLS_2001
        for thing in [None, ("rises", []), ("falls", 1, ((), (), ()))]:
            self.assertIs(shows_rises(web, "d", thing, kinds=kinds), False)
