import unittest

from holdgates.names import beat_of, is_name, is_rhythm, takes, times_of
from tests.helper import anything

FAR = 10 ** 60
RHYTHMS = ["x", "x-", "-x", "xx", "x--", "-xx", "--x-", "x-x--", "-----x", "x-----", "xxx-xx", "--xx-x"]


class Names(unittest.TestCase):
    def test_names(self):
        for name in ["a", "z", "lane", "abcdefgh", "hold", "zzzzzzzz", "mnopqrst", "uvwxyz"]:
            self.assertIs(is_name(name), True, name)

    def test_no_names(self):
        for text in ["", "abcdefghi", "A", "aB", "a1", "1", "a b", " a", "a ", "a\n", "a-", "_", "\u00e9", "\u00df",
                     "a\u0301", "`", "{"]:
            self.assertIs(is_name(text), False, text)

    def test_names_of_anything(self):
        for thing in anything():
            good = isinstance(thing, str) and thing in ("a", "x", "ab", "hold", "up", "lr")
            self.assertIs(is_name(thing), good, thing)
        self.assertIs(is_name(["a"]), False)
        self.assertIs(is_name(("a", "b")), False)
        self.assertIs(is_name({"a": "b"}), False)
        self.assertIs(is_name(b"a"), False)

    def test_rhythms(self):
        for rhythm in RHYTHMS + ["xxxxxx"]:
            self.assertIs(is_rhythm(rhythm), True, rhythm)

    def test_no_rhythms(self):
        for text in ["", "-", "--", "------", "xxxxxxx", "x------", "X", "x.", "x ", " x", "xy", "x\n", "x1"]:
            self.assertIs(is_rhythm(text), False, text)

    def test_signs(self):
        for code in range(300):
            self.assertIs(is_name(chr(code)), chr(code) in "abcdefghijklmnopqrstuvwxyz", code)
            self.assertIs(is_name("a" + chr(code)), chr(code) in "abcdefghijklmnopqrstuvwxyz", code)
            self.assertIs(is_rhythm("x" + chr(code)), chr(code) in "x-", code)

    def test_rhythms_of_anything(self):
        for thing in anything():
            self.assertIs(is_rhythm(thing), isinstance(thing, str) and thing in ("x", "x-"), thing)
        self.assertIs(is_rhythm(["x", "-"]), False)
        self.assertIs(is_rhythm(("x",)), False)
        self.assertIs(is_rhythm({"x": 1}), False)

    def test_by_names(self):
        self.assertIs(is_name(thing="a"), True)
        self.assertIs(is_rhythm(thing="x"), True)
        self.assertIs(takes(beat=2, rhythm="-x"), True)
        self.assertEqual(times_of(beat=2, rhythm="-x"), 1)
        self.assertEqual(beat_of(number=0, rhythm="-x"), 2)


class Rhythms(unittest.TestCase):
    def test_takes_sign_by_sign(self):
        self.assertEqual([takes("x-x--", beat) for beat in range(1, 12)],
                         [True, False, True, False, False, True, False, True, False, False, True])
        self.assertEqual([takes("-x", beat) for beat in range(1, 5)], [False, True, False, True])

    def test_takes_nothing_at_beat_0(self):
        for rhythm in RHYTHMS:
            self.assertIs(takes(rhythm, 0), False)

    def test_takes_far(self):
        self.assertIs(takes("x", FAR), True)
        self.assertIs(takes("x-", FAR), False)
        self.assertIs(takes("-x", FAR), True)
        # 10 ** 60 - 1 is divided by 3 without a rest.
        self.assertIs(takes("x--", FAR), True)
        self.assertIs(takes("-x-", FAR), False)
        self.assertIs(takes("--x", FAR - 1), True)

    def test_times_and_beats_count_what_is_taken(self):
        for rhythm in RHYTHMS:
            many = 0
            self.assertEqual(times_of(rhythm, 0), 0)
            for beat in range(1, 60):
                if takes(rhythm, beat):
                    self.assertEqual(beat_of(rhythm, many), beat)
                    many += 1
                self.assertEqual(times_of(rhythm, beat), many)

    def test_times_far(self):
        self.assertEqual(times_of("x", FAR), FAR)
        self.assertEqual(times_of("x-", FAR), FAR // 2)
        self.assertEqual(times_of("x--", FAR), (FAR - 1) // 3 + 1)
        self.assertEqual(times_of("-xx", FAR), (FAR - 1) // 3 * 2)
        self.assertEqual(times_of("x-x--", FAR), FAR // 5 * 2)
        self.assertEqual(times_of("-----x", FAR + 2), (FAR + 2) // 6)

    def test_beats_far(self):
        self.assertEqual(beat_of("x", FAR), FAR + 1)
        self.assertEqual(beat_of("-x", FAR), 2 * FAR + 2)
        self.assertEqual(beat_of("x--x-", FAR + 1), FAR // 2 * 5 + 4)
        for rhythm in RHYTHMS:
            for number in [FAR - 1, FAR, 10 ** 30 + 7]:
                beat = beat_of(rhythm, number)
                self.assertIs(takes(rhythm, beat), True)
                self.assertEqual(times_of(rhythm, beat), number + 1)
                self.assertEqual(times_of(rhythm, beat - 1), number)
