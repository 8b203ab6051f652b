import re
import unittest

from holdgates.courses import Course
from holdgates.errors import Unread
from holdgates.feeds import is_feed
from holdgates.figures import number_in, word_of
from holdgates.runs import run
from holdgates.texts import read_course, read_feed, read_web, show_course, show_feed, show_web
from holdgates.webs import Web
from tests.helper import (anything, due, due_by_hand, equal_kinds, luck_of, made_course, made_feed, made_web, spoilt_texts,
                          unchanged)

FAR = 10 ** 12
WEB = Web([("a", "x"), ("bb", "x--x")], [
    ("hold", "a", "c", 2, 1), ("wait", "bb", "d", 0), ("lag", "c", "e", 3), ("deal", "d", "f", "g", "lrl"),
    ("join", "e", "f", "h", 4), ("cross", "g", "h", "i", "zzzzzzzz")])
TEXT = """inlet a x
inlet bb x--x
hold a c 2 1
wait bb d 0
lag c e 3
deal d f g lrl
join e f h 4
cross g h i zzzzzzzz"""
COURSE = Course(WEB, lifts=[(0, 0, "up"), (0, 5, "down"), (10 ** 60, 1, "up")])
LIFTS = f"\nlift 0 0 up\nlift 0 5 down\nlift 1{'0' * 60} 1 up"
TWO = Web([("a", "x"), ("b", "x")])


class Webs(unittest.TestCase):
    def test_shown_and_read(self):
        self.assertTrue(equal_kinds(unchanged(show_web, WEB), TEXT))
        self.assertTrue(unchanged(read_web, TEXT) == WEB)
        self.assertEqual(show_web(web=TWO), "inlet a x\ninlet b x")
        self.assertTrue(read_web(text="inlet a x\ninlet b x") == TWO)
        self.assertTrue(equal_kinds(read_web(TEXT).gates(), WEB.gates()))

    def test_written_read_and_written_again(self):
        luck = luck_of(271)
        for _ in range(200):
            web = made_web(luck)
            text = show_web(web)
            self.assertIsNone(due_by_hand(text, 1))
            self.assertTrue(read_web(text) == web)
            self.assertEqual(show_web(read_web(text)), text)

    def test_names_that_are_words(self):
        gates = [("hold", "hold", "wait", 1, 0), ("cross", "inlet", "wait", "up", "lift")]
        web = Web([("inlet", "x"), ("hold", "x")], gates)
        self.assertTrue(read_web(show_web(web)) == web)
        self.assertEqual(show_web(web), "inlet inlet x\ninlet hold x\nhold hold wait 1 0\ncross inlet wait up lift")

    def test_spoilt(self):
        luck, many = luck_of(272), {"row": 0, "whole": 0, "web": 0}
        for _ in range(250):
            text = show_web(made_web(luck, luck.randint(0, 6)))
            for wrong in spoilt_texts(luck, text, 12):
                told = due_by_hand(wrong, 1)
                self.assertTrue(equal_kinds(due(read_web, wrong), told), wrong)
                many["web" if told is None else "whole" if told[1] == wrong.count("\n") + 1 else "row"] += 1
                if told is None:
                    self.assertEqual(show_web(read_web(wrong)), wrong)
        self.assertTrue(min(many.values()) > 100, many)

    def test_edges(self):
        for text, row in [
                ("", 0), ("\n", 0), (" ", 0), ("inlet a x\n", 1), ("\ninlet a x", 0), ("inlet a x ", 0),
                (" inlet a x", 0), ("inlet  a x", 0), ("inlet a  x", 0), ("inlet a x\n\ninlet b x", 1),
                ("inlet a x\n ", 1), ("wait a b 0", 0), ("lift 0 0 up", 0), ("inlet", 0), ("inlet a", 0),
                ("inlet a x x", 0), ("inlet a ---", 0), ("inlet a xxxxxxx", 0), ("inlet A x", 0),
                ("inlet a x\nhold a b 2 01", 1), ("inlet a x\nhold a b 02 1", 1), ("inlet a x\nhold a b 2 -0", 1),
                ("inlet a x\nhold a b 2 3", 1), ("inlet a x\nhold a b 13 0", 1), ("inlet a x\nhold a a 2 0", 1),
                ("inlet a x\nlag a b 0", 1), ("inlet a x\nhold a b 2", 1), ("inlet a x\nwait a b 1 0", 1),
                ("inlet a x\nwait a b 0\ninlet c x", 2), ("inlet a x\nlift 0 0 up", 1),
                ("inlet a x\ndeal a b c lrx", 1), ("inlet a x\ndeal a b b lr", 1),
                ("inlet a x\ndeal a b c lrlrlrl", 1),
                # Each row is so, but not the whole.
                ("inlet a x\ninlet a x", 2), ("inlet a x\ninlet b x\ninlet c x\ninlet d x", 4),
                ("inlet a x\nwait b c 0", 2), ("inlet a x\nwait a b 7\nwait b c 6", 3),
                ("inlet a x\nwait a b 0\nwait a c 0\nwait b d 0", 4),
                ("\n".join(["inlet a x"] + [f"wait {'abcdefghijkl'[at]} {'abcdefghijkl'[at + 1]} 0" for at in range(11)]), 12),
                # The first row that isn't so goes ahead of the whole.
                ("inlet a x\ninlet a x\nwait z y\nwait", 2), ("inlet a x\rinlet b x", 0),
                ("inlet a x\x0binlet b x", 0)]:
            self.assertTrue(equal_kinds(due(read_web, text), (Unread, row)), text)
            self.assertEqual(due_by_hand(text, 1), (Unread, row), text)

    def test_numbers_of_thousands_of_figures(self):
        for number in ["9" * 5000, "1" + "0" * 10000, "-" + "7" * 4999, "0" * 5000]:
            self.assertEqual(due(read_web, f"inlet a x\nwait a b {number}"), (Unread, 1))
            self.assertEqual(due(read_course, f"inlet a x\nwait a b 0\nlift {number} 0 up"), (Unread, 2))
            self.assertEqual(due(read_feed, TWO, f"1\n{number}"), (Unread, 1))

    def test_of_anything(self):
        for thing in anything() + [TEXT.encode(), [TEXT], TEXT.split("\n")]:
            if not isinstance(thing, str):
                self.assertTrue(equal_kinds(due(read_web, thing), (Unread, 0)))
                self.assertTrue(equal_kinds(due(read_course, thing), (Unread, 0)))
                self.assertTrue(equal_kinds(due(read_feed, TWO, thing), (Unread, 0)))
            else:
                self.assertTrue(equal_kinds(due(read_web, thing), (Unread, 0)))


class Courses(unittest.TestCase):
    def test_shown_and_read(self):
        self.assertTrue(equal_kinds(unchanged(show_course, COURSE), TEXT + LIFTS))
        self.assertTrue(unchanged(read_course, TEXT + LIFTS) == COURSE)
        self.assertEqual(show_course(course=Course(WEB)), TEXT)
        self.assertTrue(read_course(text=TEXT) == Course(WEB))

    def test_written_read_and_written_again(self):
        luck = luck_of(273)
        for _ in range(200):
            course = made_course(luck, made_web(luck), [0, 1, 9, 10, 10 ** 30, 10 ** 60])
            text = show_course(course)
            self.assertTrue(read_course(text) == course)
            self.assertEqual(show_course(read_course(text)), text)
            self.assertEqual(due(read_web, text) is None, course.lifts() == [])

    def test_what_is_read_does_as_what_was_written(self):
        luck = luck_of(274)
        for _ in range(40):
            course = made_course(luck, made_web(luck, words=("hold", "wait", "lag", "deal", "cross")), [0, 1, 5, 9])
            feed = made_feed(luck, course.web(), 12)
            other = read_feed(course.web(), show_feed(feed))
            self.assertEqual(run(read_course(show_course(course)), other, 12), run(course, feed, 12))

    def test_spoilt(self):
        luck, many = luck_of(275), {"row": 0, "whole": 0, "course": 0}
        for _ in range(250):
            course = made_course(luck, made_web(luck, luck.randint(1, 5)), [0, 1, 2, 10 ** 60])
            for wrong in spoilt_texts(luck, show_course(course), 12):
                told = due_by_hand(wrong, 2)
                self.assertTrue(equal_kinds(due(read_course, wrong), told), wrong)
                many["course" if told is None else "whole" if told[1] == wrong.count("\n") + 1 else "row"] += 1
        self.assertTrue(min(many.values()) > 100, many)

    def test_edges(self):
        for more, row in [
                ("\nlift 0 9 up", 9), ("\nlift 0 10 up", 8), ("\nlift 0 -1 up", 8), ("\nlift -1 0 up", 8),
                ("\nlift 0 0 UP", 8), ("\nlift 0 0", 8), ("\nlift 0 0 up up", 8), (f"\nlift {10 ** 60 + 1} 0 up", 8),
                ("\nlift 00 0 up", 8), ("\nlift", 8), ("\nlift 0 2 up", 9), ("\nlift 0 3 up", 9),
                ("\nlift 1 0 up\nlift 0 0 up", 10), ("\nlift 0 1 up\nlift 0 0 up", 10),
                ("\nlift 0 0 up\nlift 0 0 down", 10), ("\nlift 0 0 up\nwait zzzzzzzz q 0", 9),
                ("\nlift 0 0 up\ninlet q x", 9), ("".join(f"\nlift {at} 0 up" for at in range(13)), 21)]:
            self.assertTrue(equal_kinds(due(read_course, TEXT + more), (Unread, row)), more)
        self.assertIsNone(due(read_course, TEXT + "".join(f"\nlift {at} 0 up" for at in range(12))))
        for text, row in [
                ("", 0), ("lift 0 0 up", 0), ("inlet a x\nlift 0 0 up", 2), ("wait a b 0\ninlet a x", 0),
                ("inlet a x\nlift 0 10 up", 1), ("inlet a x\nlift 0 0 UP\ninlet b x", 1),
                ("inlet a x\nlift b x\nwait a c 0", 1)]:
            self.assertTrue(equal_kinds(due(read_course, text), (Unread, row)))


class Feeds(unittest.TestCase):
    def test_shown_and_read(self):
        for feed, text in [(((1, -2, 0), (FAR, -FAR)), f"1 -2 0\n{FAR} -{FAR}"), (((), ()), "none\nnone"), (((),
                           (0,)), "none\n0"),
                           (((5,), ()), "5\nnone")]:
            self.assertTrue(equal_kinds(unchanged(show_feed, feed), text))
            self.assertEqual(show_feed(feed=list(feed)), text)
            self.assertTrue(equal_kinds(unchanged(read_feed, TWO, text), feed))
            self.assertTrue(equal_kinds(read_feed(text=text, web=TWO), feed))

    def test_written_read_and_written_again(self):
        luck = luck_of(276)
        for _ in range(100):
            web = made_web(luck, 1)
            feed = made_feed(luck, web, 30)
            text = show_feed(feed)
            self.assertTrue(equal_kinds(read_feed(web, text), feed))
            self.assertEqual(show_feed(read_feed(web, text)), text)

    def test_edges(self):
        for text, row in [
                ("", 0), ("1", 1), ("none", 1), ("1\n", 1), ("\n1", 0), ("1\n2\n3", 2), ("1\n2\n", 2), ("1\n2\nx", 2),
                ("1\nx\n3", 1), ("x\n1", 0), ("1 \n2", 0), (" 1\n2", 0), ("1  2\n2", 0), ("01\n2", 0), ("-0\n2", 0),
                ("+1\n2", 0), ("--1\n2", 0), ("-\n2", 0), ("1 none\n2", 0), ("none 1\n2", 0), ("none none\n2", 0),
                ("None\n2", 0), (f"{FAR + 1}\n2", 0), (f"-{FAR + 1}\n2", 0), ("1\n?", 1), ("1.0\n2", 0),
                ("1_0\n2", 0), ("\u0661\n2", 0), ("\u00b2\n2", 0), ("1\t2\n2", 0), ("1\r\n2", 0),
                ("1\n" + " ".join(["1"] * 2001), 1), ("none\n", 1), ("none ", 0)]:
            self.assertTrue(equal_kinds(due(read_feed, TWO, text), (Unread, row)), text)
        self.assertIsNone(due(read_feed, TWO, "1\n" + " ".join(["1"] * 2000)))

    def test_what_is_read_is_a_feed_that_is_written_so(self):
        luck, many = luck_of(277), {"feed": 0, "not": 0}
        for _ in range(1500):
            signs = ["1", "0", "-", " ", "\n", "none", "7", "12", "\n"]
            text = luck.choice(["", "1\n", "none\n"]) + "".join(luck.choice(signs) for _ in range(luck.randint(0, 5)))
            if due(read_feed, TWO, text) is None:
                feed = read_feed(TWO, text)
                self.assertTrue(is_feed(TWO, feed))
                self.assertEqual(show_feed(feed), text)
                many["feed"] += 1
                continue
            rows, number = text.split("\n"), due(read_feed, TWO, text)[1]
            right = [bool(re.fullmatch(r"none|(0|-?[1-9]\d*)( (0|-?[1-9]\d*))*", row)) for row in rows]
            found = [at for at, is_so in enumerate(right) if not is_so or at > 1] or [len(rows)]
            self.assertEqual(number, found[0], text)
            many["not"] += 1
        self.assertTrue(min(many.values()) > 50, many)


class Figures(unittest.TestCase):
    def test_numbers_by_any_number_of_figures(self):
        luck = luck_of(278)
        for size in [1, 2, 59, 60, 61, 119, 120, 121, 4300, 4301, 9000]:
            for _ in range(5):
                word = luck.choice("123456789") + "".join(luck.choice("0123456789") for _ in range(size - 1))
                for sign in ("", "-"):
                    number = number_in(sign + word)
                    self.assertEqual(number % 10 ** 9, int((sign + word[-9:])) % 10 ** 9)
                    self.assertEqual(word_of(number), sign + word)
                    self.assertEqual(len(word_of(10 ** size - 1)), size)
                    self.assertEqual(word_of(10 ** size), "1" + "0" * size)
        for number in [0, 1, -1, 9, 10, -10, 10 ** 60 - 1, 10 ** 60, 10 ** 60 + 1, -10 ** 60, 10 ** 120]:
            self.assertEqual(word_of(number), str(number))
            self.assertTrue(equal_kinds(number_in(str(number)), number))
        for word in ["", "-", "-0", "00", "01", "-01", "+1", "1-", "--1", "1.0", "1_0", " 1", "1 ", "a", "\u0661", "1\n"]:
            self.assertIsNone(number_in(word), word)
