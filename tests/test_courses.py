import unittest

from holdgates.courses import Course
from holdgates.errors import NoCourse
from holdgates.webs import Web
from tests.helper import LINE, TWO, anything, equal_kinds, luck_of, made_course, made_web

FAR = 10 ** 60
# Gates 0, 1 and 4 can be lifted, 2, 3 and 5 can't.
WEB = Web([("a", "x"), ("b", "x-")], [
    ("hold", "a", "c", 2, 1), ("wait", "b", "d", 2), ("lag", "c", "e", 1), ("deal", "d", "f", "g", "lr"),
    ("cross", "e", "f", "h", "i"), ("join", "h", "i", "j", 3)])


def refused(web, lifts=()):
    try:
        Course(web, lifts=lifts)
    except NoCourse as told:
        return told.field
    return None


class Made(unittest.TestCase):
    def test_lists_and_tuples(self):
        lifts = [(0, 0, "up"), (0, 1, "down"), (3, 0, "down"), (3, 4, "up"), (FAR, 1, "up")]
        for course in [Course(WEB, lifts=lifts), Course(WEB, lifts=tuple(lifts)), Course(lifts=lifts, web=WEB)]:
            self.assertTrue(equal_kinds(course.lifts(), lifts))
            self.assertTrue(course.web() == WEB)
            self.assertIsInstance(course.web(), Web)

    def test_without_lifts(self):
        for course in [Course(WEB), Course(WEB, lifts=[]), Course(web=WEB, lifts=())]:
            self.assertTrue(equal_kinds(course.lifts(), []))
            self.assertTrue(course == Course(WEB))

    def test_lifts_by_name_alone(self):
        with self.assertRaises(TypeError):
            Course(WEB, [(0, 0, "up")])

    def test_none_to_twelve(self):
        lifts = [(beat, 0, "up") for beat in range(12)]
        for many in range(13):
            self.assertEqual(Course(WEB, lifts=lifts[:many]).lifts(), lifts[:many])

    def test_what_is_told_is_the_askers_own(self):
        course = Course(WEB, lifts=[(1, 0, "up")])
        course.lifts().append(None)
        course.lifts().clear()
        self.assertEqual(course.lifts(), [(1, 0, "up")])
        self.assertTrue(course.is_lifted(0, 2))

    def test_what_was_handed_in_may_change(self):
        lifts = [(1, 0, "up")]
        course = Course(WEB, lifts=lifts)
        lifts[0] = (1, 0, "down")
        lifts.append((5, 0, "down"))
        self.assertEqual(course.lifts(), [(1, 0, "up")])
        self.assertTrue(course.is_lifted(0, 9))


class Lifted(unittest.TestCase):
    def test_from_the_next_beat_on(self):
        course = Course(WEB, lifts=[(0, 1, "up"), (3, 0, "up"), (5, 0, "down"), (7, 1, "up"), (8, 1, "down"), (9, 1, "up")])
        self.assertEqual([course.is_lifted(0, beat) for beat in range(9)],
                         [False, False, False, False, True, True, False, False, False])
        self.assertEqual([course.is_lifted(1, beat) for beat in range(12)],
                         [False] + [True] * 8 + [False] + [True] * 2)
        self.assertIs(course.is_lifted(gate=0, beat=4), True)
        self.assertIs(course.is_lifted(beat=6, gate=0), False)

    def test_gates_without_lifts(self):
        course = Course(WEB, lifts=[(0, 1, "up")])
        for gate in [0, 2, 3, 4, 5]:
            for beat in [0, 1, 2, FAR]:
                self.assertIs(course.is_lifted(gate, beat), False)

    def test_beats_next_to_one_another_and_far(self):
        course = Course(WEB, lifts=[(0, 0, "up"), (1, 0, "down"), (2, 0, "up"), (FAR - 1, 0, "down"), (FAR, 0, "up")])
        self.assertEqual([course.is_lifted(0, beat) for beat in [0, 1, 2, 3, 4, 10 ** 30, FAR - 1, FAR, FAR + 1]],
                         [False, True, False, True, True, True, True, False, True])
        self.assertIs(Course(WEB, lifts=[(FAR, 4, "up")]).is_lifted(4, FAR), False)
        self.assertIs(Course(WEB, lifts=[(0, 4, "up")]).is_lifted(4, 1), True)
        self.assertIs(Course(WEB, lifts=[(0, 4, "up")]).is_lifted(4, 0), False)

    def test_by_hand(self):
        luck = luck_of(3)
        for _ in range(100):
            course = made_course(luck, made_web(luck), list(range(8)))
            for gate in range(len(course.web())):
                for beat in range(10):
                    told = [lift[2] for lift in course.lifts() if lift[1] == gate and lift[0] < beat]
                    self.assertIs(course.is_lifted(gate, beat), told[-1:] == ["up"])


class Equal(unittest.TestCase):
    def test_courses_told_alike(self):
        lifts = [(0, 0, "up"), (2, 1, "down")]
        self.assertTrue(Course(WEB, lifts=lifts) == Course(Web(WEB.inlets(), WEB.gates()), lifts=tuple(lifts)))
        self.assertFalse(Course(WEB, lifts=lifts) != Course(WEB, lifts=lifts))

    def test_unlike_courses(self):
        courses = [Course(WEB), Course(TWO), Course(WEB, lifts=[(0, 0, "up")]), Course(WEB, lifts=[(0, 0, "down")]),
                   Course(WEB, lifts=[(1, 0, "up")]), Course(WEB, lifts=[(0, 1, "up")]), Course(TWO, lifts=[(0, 0, "up")]),
                   Course(WEB, lifts=[(0, 0, "up"), (1, 0, "up")])]
        for at, one in enumerate(courses):
            for place, other in enumerate(courses):
                self.assertIs(one == other, at == place)
                self.assertIs(one != other, at != place)

    def test_equal_to_nothing_else(self):
        course = Course(LINE)
        for thing in anything() + [LINE, (LINE, ()), [LINE, []]]:
            same = isinstance(thing, Course) and thing.web() == LINE
            self.assertIs(course == thing, same, thing)
            self.assertIs(course != thing, not same, thing)
        self.assertIs(LINE == Course(LINE), False)


class NoCourses(unittest.TestCase):
    def test_web_of_anything_ahead_of_lifts(self):
        for thing in anything() + [Course(WEB)]:
            if isinstance(thing, Web):
                continue
            self.assertEqual(refused(thing), "web", thing)
            self.assertEqual(refused(thing, None), "web", thing)

    def test_lifts_of_anything(self):
        for thing in anything():
            if isinstance(thing, (list, tuple)) and len(thing) == 0:
                continue
            self.assertEqual(refused(WEB, thing), "lifts", thing)
            self.assertEqual(refused(WEB, [thing]), "lifts", thing)
            self.assertEqual(refused(WEB, ((0, 0, "up"), thing)), "lifts", thing)

    def test_each_part_of_a_lift(self):
        for thing in anything():
            whole = isinstance(thing, int) and not isinstance(thing, bool)
            if not (whole and 0 <= thing <= FAR):
                self.assertEqual(refused(WEB, [(thing, 0, "up")]), "lifts", thing)
            if not (whole and thing in (0, 1)):
                self.assertEqual(refused(WEB, [(0, thing, "up")]), "lifts", thing)
            if not (isinstance(thing, str) and thing == "up"):
                self.assertEqual(refused(WEB, [(0, 0, thing)]), "lifts", thing)
            self.assertEqual(refused(WEB, [(0, 0, "up", thing)]), "lifts", thing)
        self.assertEqual(refused(WEB, [(0, 0)]), "lifts")
        self.assertEqual(refused(WEB, [[0, 0, "up"]]), "lifts")
        self.assertEqual(refused(WEB, [{0: 1}]), "lifts")
        self.assertEqual(refused(WEB, {(0, 0, "up"): 1}), "lifts")
        self.assertEqual(refused(WEB, (0, 0, "up")), "lifts")

    def test_words(self):
        self.assertIsNone(refused(WEB, [(0, 0, "up")]))
        self.assertIsNone(refused(WEB, [(0, 0, "down")]))
        for word in ["", "Up", "u", "p", "updown", "left", "up ", ("up",), ["up"]]:
            self.assertEqual(refused(WEB, [(0, 0, word)]), "lifts", word)

    def test_beats(self):
        for beat in [0, 1, FAR - 1, FAR]:
            self.assertIsNone(refused(WEB, [(beat, 0, "up")]))
        for beat in [-1, FAR + 1, True, False, None, "0"]:
            self.assertEqual(refused(WEB, [(beat, 0, "up")]), "lifts", beat)

    def test_gates_that_can_be_lifted(self):
        for gate in range(-1, 8):
            self.assertEqual(refused(WEB, [(0, gate, "up")]), None if gate in (0, 1, 4) else "lifts", gate)
        for gate in [True, False, None, "0", (0,)]:
            self.assertEqual(refused(WEB, [(0, gate, "up")]), "lifts", gate)
        self.assertEqual(refused(LINE, [(0, 0, "up")]), "lifts")
        for gate in range(-3, 4):
            self.assertEqual(refused(TWO, [(0, gate, "up")]), None if gate in (0, 1) else "lifts", gate)

    def test_rising_by_beat_and_gate(self):
        self.assertIsNone(refused(WEB, [(0, 0, "up"), (0, 1, "up"), (0, 4, "up"), (1, 0, "up"), (1, 4, "up")]))
        self.assertEqual(refused(WEB, [(1, 0, "up"), (0, 0, "up")]), "lifts")
        self.assertEqual(refused(WEB, [(0, 1, "up"), (0, 0, "up")]), "lifts")
        self.assertEqual(refused(WEB, [(0, 0, "up"), (2, 0, "up"), (1, 4, "up")]), "lifts")
        self.assertEqual(refused(WEB, [(5, 0, "up"), (3, 4, "up")]), "lifts")

    def test_two_of_one_beat_and_gate(self):
        self.assertEqual(refused(WEB, [(0, 0, "up"), (0, 0, "up")]), "lifts")
        self.assertEqual(refused(WEB, [(0, 0, "up"), (0, 0, "down")]), "lifts")
        self.assertEqual(refused(WEB, [(0, 0, "down"), (0, 0, "up")]), "lifts")
        self.assertEqual(refused(WEB, [(0, 0, "up"), (3, 1, "up"), (3, 1, "down")]), "lifts")

    def test_twelve_and_thirteen(self):
        lifts = [(beat, 0, "up") for beat in range(13)]
        self.assertIsNone(refused(WEB, lifts[:12]))
        self.assertEqual(refused(WEB, lifts), "lifts")
        self.assertEqual(refused(WEB, tuple(lifts)), "lifts")

    def test_field_and_class(self):
        with self.assertRaises(NoCourse) as caught:
            Course(None)
        self.assertEqual(caught.exception.field, "web")
        self.assertIsInstance(caught.exception, ValueError)

    def test_nothing_handed_in_is_changed(self):
        lifts = [(1, 0, "up"), (0, 0, "up")]
        self.assertEqual(refused(WEB, lifts), "lifts")
        self.assertEqual(lifts, [(1, 0, "up"), (0, 0, "up")])
