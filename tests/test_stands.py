import unittest

from holdgates.courses import Course
from holdgates.errors import Jams, NoFeed, NoStand, TooLong
from holdgates.feeds import cut
from holdgates.runs import run
from holdgates.stands import first_stand, go_on, is_stand, left, stand
from holdgates.webs import Web
from tests.helper import (LINE, Jam, anything, by_feed, equal_kinds, hand_of, luck_of, made_course, made_feed, made_web,
                          unchanged)
from tests.test_feeds import WRONG

MOST = 10 ** 12
FAR = 10 ** 60
# One gate of each kind.
WEB = Web([("a", "x"), ("b", "x")], [
    ("hold", "a", "c", 2, 1), ("wait", "b", "d", 2), ("lag", "c", "e", 3), ("deal", "d", "f", "g", "lrl"),
    ("join", "e", "f", "h", 4), ("cross", "g", "h", "i", "j")])
STAND = (7, ((3, 5), (4, 2), (None, 1, None), (2,), (9, 8), ()))
FIRST = (0, ((), (), (None, None, None), (0,), (), ()))


def with_part(at, part):
    kept = STAND[1]
    return STAND[0], kept[:at] + (part,) + kept[at + 1:]


class First(unittest.TestCase):
    def test_all_keep_nothing(self):
        self.assertTrue(equal_kinds(first_stand(WEB), FIRST))
        self.assertTrue(equal_kinds(first_stand(web=LINE), (0, ())))
        self.assertIs(is_stand(WEB, first_stand(WEB)), True)

    def test_behind_no_beat(self):
        self.assertTrue(equal_kinds(stand(Course(WEB), ((1,), (2,)), 0), FIRST))


class Stands(unittest.TestCase):
    def test_what_each_gate_keeps(self):
        feed = ((5, 3, 9, 1, 7, 6), (15, 13, 19, 11, 17))
        told = [stand(Course(WEB), feed, beats) for beats in range(7)]
        self.assertTrue(equal_kinds(told, [
            FIRST,
            (1, ((5,), (15,), (None, None, None), (0,), (), ())),
            (2, ((3, 5), (15, 13), (None, None, None), (0,), (), ())),
            (3, ((3, 9), (13, 19), (None, None, 5), (1,), (), ())),
            (4, ((1, 9), (19, 11), (None, 5, 3), (2,), (), ())),
            (5, ((1, 9), (11, 17), (5, 3, 7), (0,), (), ())),
            (6, ((1, 9), (11, 17), (3, 7, 6), (0,), (), ())),
        ]))
        self.assertTrue(equal_kinds(stand(feed=list(feed), course=Course(WEB), beats=1), told[1]))

    def test_joins_keep_the_eldest_first(self):
        course = Course(Web([("a", "x"), ("b", "x")], [("join", "a", "b", "c", 3)]))
        self.assertEqual(stand(course, ((1, 3, 5), (2, 0)), 2), (2, ((3, 0),)))
        self.assertEqual(stand(course, ((1, 3, 5), (2, 0)), 3), (3, ((0, 5),)))

    def test_stands_by_hand(self):
        luck = luck_of(4)
        for _ in range(400):
            web = made_web(luck)
            course = made_course(luck, web, list(range(20)))
            feed = made_feed(luck, web, 25)
            hand = hand_of(course, by_feed(feed))
            for beats in range(25):
                told = unchanged(stand, course, feed, beats)
                self.assertTrue(equal_kinds(told, (beats, hand.kept())))
                self.assertIs(is_stand(web, told), True)
                try:
                    hand.go()
                except Jam as jam:
                    with self.assertRaises(Jams) as caught:
                        stand(course, feed, beats + 1)
                    self.assertEqual(caught.exception.beat, jam.beat)
                    break

    def test_600_and_601(self):
        course = Course(Web([("a", "x")], [("wait", "a", "b", 1)]))
        self.assertEqual(stand(course, (tuple(range(600)),), 600), (600, ((599,),)))
        with self.assertRaises(TooLong) as caught:
            stand(course, ((),), 601)
        self.assertEqual(caught.exception.most, 600)

    def test_refused_as_a_run(self):
        course = Course(Web([("a", "x"), ("b", "x")], [("join", "a", "b", "c", 1)]))
        for thing, inlet in WRONG:
            with self.assertRaises(NoFeed) as caught:
                stand(Course(Web([("a", "x-")])), thing, 601)
            self.assertEqual(caught.exception.inlet, inlet)
        with self.assertRaises(TooLong):
            stand(course, ((1, 1), (1, 1)), 601)
        with self.assertRaises(Jams) as caught:
            stand(course, ((1, 1), (1, 1)), 600)
        self.assertEqual(caught.exception.beat, 2)


class Forms(unittest.TestCase):
    def test_a_stand_has_the_form(self):
        for thing in [STAND, FIRST, (FAR, STAND[1]), (0, STAND[1]), with_part(0, (5, 5)), with_part(0, (MOST,)),
                      with_part(0, (-MOST, MOST)), with_part(0, ()), with_part(1, (2,)), with_part(1, ()),
                      with_part(1, (-MOST, MOST)), with_part(2, (1, 1, 1)), with_part(2, (None,) * 3),
                      with_part(2, (MOST, None, -MOST)), with_part(3, (0,)), with_part(3, (1,)),
                      with_part(4, (4, 3, 2, 1)), with_part(4, (1,)), with_part(4, ())]:
            self.assertIs(is_stand(WEB, thing), True, thing)
        self.assertIs(is_stand(thing=(3, ()), web=LINE), True)

    def test_no_beat(self):
        for beat in anything():
            good = isinstance(beat, int) and not isinstance(beat, bool) and 0 <= beat <= FAR
            self.assertIs(is_stand(WEB, (beat, STAND[1])), good, beat)
            self.assertIs(is_stand(LINE, (beat, ())), good, beat)

    def test_no_form_of_anything(self):
        for thing in anything() + [STAND[1], list(STAND), (STAND,), STAND + (0,), STAND[:1], {7: STAND[1]},
                                   (7, list(STAND[1])), (7, STAND[1][:-1]), (7, STAND[1] + ((),)), (7, ()), (7, None),
                                   (7, {at: part for at, part in enumerate(STAND[1])})]:
            self.assertIs(is_stand(WEB, thing), False, thing)
            with self.assertRaises(NoStand):
                go_on(Course(WEB), thing, ((), ()), 1)
        for thing in anything():
            good = isinstance(thing, tuple) and len(thing) == 2 and equal_kinds(thing, (0, ()))
            self.assertIs(is_stand(LINE, thing), good, thing)

    def test_each_part_of_anything(self):
        for at in range(6):
            for thing in anything():
                self.assertIs(is_stand(WEB, with_part(at, thing)), self.fits(at, thing), (at, thing))
                for count in [1, 2, 3]:
                    part = (thing,) * count
                    self.assertIs(is_stand(WEB, with_part(at, part)), self.fits(at, part), (at, part))

    def fits(self, at, part):
        def whole(thing):
            return isinstance(thing, int) and not isinstance(thing, bool) and -MOST <= thing <= MOST

        if not isinstance(part, tuple):
            return False
        if at == 5:
            return part == ()
        if at == 3:
            return len(part) == 1 and whole(part[0]) and part[0] in (0, 1, 2)
        if at == 2:
            return len(part) == 3 and all(thing is None or whole(thing) for thing in part)
        fits = len(part) <= (2, 2, 0, 0, 4)[at] and all(whole(thing) for thing in part)
        return fits and (at != 0 or list(part) == sorted(part))

    def test_parts_beyond(self):
        for at, part in [(0, (3, 4, 5)), (0, (5, 3)), (0, (3, MOST + 1)), (0, (None,)), (0, (3, None)), (0, [3]),
                         (1, (1, 2, 3)), (1, (None,)), (1, (True,)), (1, (-MOST - 1,)), (1, [1]),
                         (2, ()), (2, (None, None)), (2, (None,) * 4), (2, [None] * 3), (2, (False, None, None)),
                         (2, (MOST + 1, None, None)), (2, (None, None, "1")),
                         (3, ()), (3, (3,)), (3, (-1,)), (3, (0, 0)), (3, (True,)), (3, (None,)), (3, [0]), (3, 0),
                         (4, (1, 2, 3, 4, 5)), (4, (None,)), (4, ((1,),)), (5, (1,)), (5, (None,)), (5, []), (5, None)]:
            self.assertIs(is_stand(WEB, with_part(at, part)), False, (at, part))
            with self.assertRaises(NoStand):
                go_on(Course(WEB), with_part(at, part), ((), ()), 0)

    def test_gates_of_c_0(self):
        web = Web([("a", "x"), ("b", "x")], [("hold", "a", "c", 0, 0), ("wait", "b", "d", 0), ("join", "c", "d", "e", 0)])
        self.assertIs(is_stand(web, (0, ((), (), ()))), True)
        for at in range(3):
            self.assertIs(is_stand(web, (0, ((),) * at + ((1,),) + ((),) * (2 - at))), False)


class Left(unittest.TestCase):
    def test_what_did_not_go_in(self):
        web = Web([("a", "x"), ("b", "-x"), ("c", "x--")])
        feed = ((1, 2, 3, 4, 5), (6, 7), (8,))
        self.assertTrue(equal_kinds(left(web, feed, 0), feed))
        self.assertTrue(equal_kinds(left(web, list(feed), 1), ((2, 3, 4, 5), (6, 7), ())))
        self.assertTrue(equal_kinds(left(web=web, feed=feed, beat=2), ((3, 4, 5), (7,), ())))
        self.assertTrue(equal_kinds(left(web, feed, FAR), ((), (), ())))

    def test_cut_and_left_are_the_feed(self):
        luck = luck_of(6)
        for _ in range(50):
            web = made_web(luck)
            feed = made_feed(luck, web, 20)
            for beat in [0, 1, 7, 20, 25, FAR]:
                parts = zip(cut(web, feed, beat), unchanged(left, web, feed, beat))
                self.assertTrue(equal_kinds(tuple(ahead + behind for ahead, behind in parts), feed))

    def test_no_feed(self):
        for thing, inlet in WRONG:
            with self.assertRaises(NoFeed) as caught:
                left(Web([("a", "x-")]), thing, 3)
            self.assertEqual(caught.exception.inlet, inlet)


class GoOn(unittest.TestCase):
    def test_cut_anywhere_it_goes_on_alike(self):
        luck, many = luck_of(7), 0
        for _ in range(400):
            web = made_web(luck)
            course = made_course(luck, web, list(range(20)))
            feed = made_feed(luck, web, 24)
            try:
                whole = run(course, feed, 24)
            except Jams as told:
                self.jams_at_its_own_number(course, feed, told.beat)
                continue
            many += 1
            for beat in range(25):
                ahead = stand(course, feed, beat)
                rows, behind = unchanged(go_on, course, ahead, left(web, feed, beat), 24 - beat)
                self.assertTrue(equal_kinds(rows, whole[beat:]))
                self.assertTrue(equal_kinds(behind, stand(course, feed, 24)))
        self.assertTrue(many > 100)

    def jams_at_its_own_number(self, course, feed, beat):
        for ahead in range(beat):
            start = stand(course, feed, ahead)
            rest = left(course.web(), feed, ahead)
            with self.assertRaises(Jams) as caught:
                go_on(course, start, rest, 24 - ahead)
            self.assertEqual(caught.exception.beat, beat)
            self.assertEqual(len(go_on(course, start, rest, beat - ahead - 1)[0]), beat - ahead - 1)

    def test_no_beats(self):
        told = go_on(course=Course(WEB), stand=STAND, feed=((), ()), beats=0)
        self.assertTrue(equal_kinds(told, ([], STAND)))
        self.assertIsInstance(told, tuple)

    def test_far_beats_lifts_and_rhythms(self):
        web = Web([("a", "x-"), ("b", "--x")], [("hold", "a", "c", 1, 0)])
        course = Course(web, lifts=[(FAR - 2, 0, "up"), (FAR, 0, "down")])
        # Beats FAR - 3, FAR - 1, FAR + 1 are odd; 3 divides FAR - 1.
        rows, behind = go_on(course, (FAR - 4, ((5,),)), ((6, 4, 9), (1, 2)), 5)
        self.assertTrue(equal_kinds(rows, [(6, None, 5), (None, None, None), (4, 1, 4), (None, None, None), (9, None, 6)]))
        self.assertTrue(equal_kinds(behind, (FAR + 1, ((9,),))))

    def test_a_stand_that_nothing_leads_to(self):
        course = Course(Web([("a", "x-")], [("lag", "a", "b", 2), ("deal", "b", "c", "d", "lr")]))
        self.assertTrue(equal_kinds(go_on(course, (0, ((8, 9), (1,))), ((1,),), 3), (
            [(1, 8, None, 8), (None, 9, 9, None), (None, 1, None, 1)], (3, ((None, None), (0,))))))

    def test_600_beats_from_any_stand(self):
        course = Course(Web([("a", "x")], [("wait", "a", "b", 1)]))
        rows, behind = go_on(course, (FAR, ((1,),)), ((),), 600)
        self.assertEqual((len(rows), behind), (600, (FAR + 600, ((1,),))))
        for beat in [0, 5, FAR]:
            with self.assertRaises(TooLong) as caught:
                go_on(course, (beat, ((1,),)), ((),), 601)
            self.assertEqual(caught.exception.most, 600)

    def test_the_refusal_told_first(self):
        course = Course(Web([("a", "x"), ("b", "x")], [("join", "a", "b", "c", 1)]))
        good, feed = (5, ((1,),)), ((1, 1), (1, 1))
        with self.assertRaises(NoStand) as caught:
            go_on(course, None, None, 601)
        self.assertEqual(vars(caught.exception), {})
        with self.assertRaises(NoFeed) as caught:
            go_on(course, good, (None, None), 601)
        self.assertEqual(caught.exception.inlet, 0)
        with self.assertRaises(TooLong):
            go_on(course, good, feed, 601)
        with self.assertRaises(Jams) as caught:
            go_on(course, good, feed, 600)
        self.assertEqual(caught.exception.beat, 6)
        self.assertEqual(go_on(course, good, feed, 0), ([], good))

    def test_no_token_is_lost(self):
        luck = luck_of(9)
        for _ in range(300):
            web = made_web(luck)
            course = made_course(luck, web, list(range(20)))
            feed = made_feed(luck, web, 30)
            out, places = [], [web.lanes().index(lane) for lane in web.outlets()]
            now = first_stand(web)
            for beat in range(1, 31):
                try:
                    rows, now = go_on(course, now, left(web, feed, beat - 1), 1)
                except Jams:
                    break
                out += [rows[0][place] for place in places if rows[0][place] is not None]
                kept = [token for gate, part in zip(web.gates(), now[1]) if gate[0] != "deal"
                        for token in part if token is not None]
                went = [number for row in cut(web, feed, beat) for number in row]
                self.assertEqual(sorted(out + kept), sorted(went))

    def test_what_is_told_is_the_askers_own(self):
        course = Course(LINE)
        go_on(course, (0, ()), ((1, 2),), 2)[0].clear()
        self.assertEqual(go_on(course, (0, ()), ((1, 2),), 2), ([(1,), (2,)], (2, ())))
