import re
import unittest

from holdgates.errors import Unread
from holdgates.texts import read_web, show_web
from holdgates.webs import Web
from holdgates.yard import Yard
from holdgates.yardtexts import read_yard, show_yard
from tests.helper import (DEED_WORDS, YARD_DEEDS, YARD_TEXT, HandYard, anything, due, due_by_hand, equal_kinds, luck_of,
                          made_deed, spoilt_texts, unchanged)

FAR = 10 ** 12
HOLD = Web([("a", "x")], [("hold", "a", "b", 1, 0)])
NAME, NUMBER = "[a-z]{1,8}", "(?:0|-?[1-9][0-9]*)"
FORMS = {
    "web": NAME, "change": NAME, "drop": NAME, "stream": f"{NAME} {NAME}", "twin": f"{NAME} {NAME}",
    "step": rf"{NAME}(?: (?:{NUMBER}|\?))*", "lift": f"{NAME} {NUMBER} (?:up|down)", "look": f"{NAME} {NAME} {NUMBER}",
    "tell": f"{NAME} {NUMBER} {NUMBER} {NUMBER}",
}


def part_by_hand(word):
    return None if word == "?" else int(word) if re.fullmatch("-?[0-9]+", word) else word


def read_by_hand(text):
    """(row, None) of the first row that can't be read or whose deed is refused, else (None, deeds)."""
    rows, hand, at = text.split("\n") if text else [], HandYard(), 0
    while at < len(rows):
        words, first = rows[at].split(" "), at
        at += 1
        if words[0] not in DEED_WORDS or not re.fullmatch(f"{words[0]} {FORMS[words[0]]}", rows[first], re.ASCII):
            return first, None
        parts = [part_by_hand(word) for word in words]
        deed = tuple(parts)
        if words[0] in ("web", "change"):
            while at < len(rows) and rows[at].split(" ")[0] not in DEED_WORDS:
                at += 1
            web = "\n".join(rows[first + 1:at])
            if due_by_hand(web, 1):
                return first, None
            deed = (*parts, read_web(web))
        elif words[0] == "step":
            deed = ("step", parts[1], tuple(parts[2:]))
        fed = {"step": parts[2:], "look": parts[-1:], "tell": parts[-1:]}.get(words[0], [])
        if any(number is not None and abs(number) > FAR for number in fed) or hand.run([deed]):
            return first, None
    return None, hand.deeds()


class Shown(unittest.TestCase):
    def test_a_row_for_each_deed(self):
        yard = Yard()
        yard.run(YARD_DEEDS[:5])
        for deed in YARD_DEEDS[5:]:
            yard.do(deed)
        self.assertTrue(equal_kinds(unchanged(show_yard, yard), YARD_TEXT))
        self.assertEqual(show_yard(yard=yard), YARD_TEXT)
        self.assertTrue(read_yard(text=YARD_TEXT) == yard)
        self.assertTrue(equal_kinds(read_yard(YARD_TEXT).deeds(), YARD_DEEDS))

    def test_deeds_that_stand(self):
        yard = read_yard(YARD_TEXT)
        for many in range(len(YARD_DEEDS), -1, -1):
            self.assertTrue(read_yard(show_yard(yard)) == yard)
            self.assertEqual(read_yard(show_yard(yard)).deeds(), YARD_DEEDS[:many])
            self.assertIs(yard.undo(), many > 0)
        self.assertEqual(show_yard(yard), "")

    def test_the_empty_text(self):
        self.assertTrue(read_yard("") == Yard())
        self.assertEqual(show_yard(Yard()), "")
        self.assertIsInstance(read_yard(""), Yard)
        self.assertIs(read_yard("").undo(), False)

    def test_one_by_one(self):
        yard = read_yard(YARD_TEXT)
        for many in range(len(YARD_DEEDS) - 1, -1, -1):
            self.assertIs(yard.undo(), True)
            self.assertEqual(yard.deeds(), YARD_DEEDS[:many])
        self.assertIs(yard.undo(), False)
        self.assertFalse(read_yard(YARD_TEXT) == read_yard(YARD_TEXT.rpartition("\n")[0]))

    def test_names_that_are_words(self):
        yard = Yard()
        for deed in [("web", "web", Web([("step", "x"), ("inlet", "x")], [("hold", "step", "drop", 1, 0)])),
                     ("stream", "none", "web"), ("twin", "none", "stream"), ("step", "stream", (1, None)),
                     ("look", "stream", "inlet", 4),
                     ("web", "step", HOLD), ("drop", "step"), ("change", "web", Web([("step", "x"), ("inlet", "x")]))]:
            yard.do(deed)
        text = show_yard(yard)
        self.assertTrue(text.startswith("web web\ninlet step x\ninlet inlet x\nhold step drop 1 0\nstream none web\n"))
        self.assertTrue(read_yard(text) == yard)

    def test_written_read_and_written_again(self):
        for seed in range(40):
            luck, yard = luck_of(seed + 2800), Yard()
            for _ in range(40):
                due(yard.do, made_deed(luck, yard))
            text = show_yard(yard)
            other = read_yard(text)
            self.assertTrue(other == yard)
            self.assertEqual(show_yard(other), text)
            self.assertEqual(other.names(), yard.names())
            self.assertEqual(read_by_hand(text)[1], yard.deeds())


class Unreads(unittest.TestCase):
    def unread(self, text, row):
        self.assertTrue(equal_kinds(due(read_yard, text), (Unread, row)), text)

    def test_of_anything(self):
        for thing in anything():
            if not isinstance(thing, str):
                self.unread(thing, -1)
            elif thing != "":
                self.unread(thing, 0)

    def test_spoilt(self):
        many = {"row": 0, "yard": 0}
        for seed in range(40):
            luck, yard = luck_of(seed + 2900), Yard()
            for _ in range(25):
                due(yard.do, made_deed(luck, yard))
            for wrong in spoilt_texts(luck, show_yard(yard) or "web a", 40) + spoilt_texts(luck, YARD_TEXT, 5):
                row, deeds = read_by_hand(wrong)
                if row is not None:
                    self.unread(wrong, row)
                    many["row"] += 1
                else:
                    self.assertEqual(read_yard(wrong).deeds(), deeds)
                    self.assertEqual(show_yard(read_yard(wrong)), wrong)
                    many["yard"] += 1
        self.assertTrue(min(many.values()) > 100, many)

    def test_blanks_and_line_feeds(self):
        rows = YARD_TEXT.split("\n")
        for at, row in enumerate(rows):
            # Of a web's rows that are none the row is that of its name.
            owner = max(number for number in range(at + 1) if rows[number].split(" ")[0] in DEED_WORDS)
            for wrong in [row + " ", row.replace(" ", "  ", 1), row + "\r", row + "\t", row + " 1"]:
                if wrong == row or (row == "step u" and wrong == "step u 1"):
                    continue
                self.unread("\n".join(rows[:at] + [wrong] + rows[at + 1:]), owner if row.split(" ")[0] not in DEED_WORDS else at)
        self.unread(YARD_TEXT + "\n", len(rows))
        self.unread("\n" + YARD_TEXT, 0)
        self.unread("\n", 0)
        self.unread(" ", 0)
        # An empty row behind a web's rows is taken as one of them.
        self.unread("web w\ninlet a x\n", 0)
        self.unread("web w\ninlet a x\n\nstream s w", 0)
        self.unread("web w\ninlet a x\nstream s w\n\nstep s 1", 3)

    def test_a_webs_rows_up_to_the_next_deeds_word(self):
        for text, row in [
                ("web w", 0), ("web w\n", 0), ("web w\nstream s w", 0), ("web w\nweb v\ninlet a x", 0),
                ("web w\nundo", 0), ("web w\ninlet a x\nlift 0 0 up", 2), ("web w\ninlet a x\nstep", 2),
                ("web w\ninlet a x\ndrop w w", 2), ("web w\ninlet a x\nnames", 0), ("web w\ninlet a x\nwait a b", 0),
                ("web w\ninlet a x\nweb w\ninlet a x", 2), ("web\ninlet a x", 0), ("web W\ninlet a x", 0),
                ("web w w\ninlet a x", 0), ("inlet a x", 0), ("wait a b 0", 0),
                ("web w\ninlet a x\nstream s w\ninlet a x", 3),
                ("web w\ninlet a x\nstream s w\nchange w\ninlet a xx", 3),
                ("web w\ninlet a x\nchange v\ninlet a x", 2), ("web w\ninlet a x\nchange w\nwait a b 0", 2),
                ("web w\ninlet a x\nwait a b 13\nstream t t", 0), ("web w\ninlet a x\nwait a b 12\nstream t t", 3)]:
            self.unread(text, row)
            self.assertEqual(read_by_hand(text)[0], row)

    def test_the_first_row_that_cannot_be_read_or_is_refused(self):
        for text, row in [
                ("stream s w\nfoo", 0), ("web w\ninlet a x\nstream s w\nstep s 1 2\nfoo", 3), ("foo\nstream s w", 0),
                ("web w\ninlet a x\nstream s w\nfoo\nstep s 1 2", 3),
                ("web w\ninlet a x\nstream s w\nlook s a 1\nweb w", 3),
                (f"web w\ninlet a x\nstream s w\nstep s {FAR + 1}", 3),
                ("web w\ninlet a x\nstream s w\nstep s -0", 3), ("web w\ninlet a x\nstream s w\nstep s 01", 3),
                (f"web w\ninlet a x\nstream s w\nstep s {'9' * 6000}", 3),
                (f"web w\ninlet a x\nstream s w\nlift s {'9' * 6000} up", 3),
                ("web w\ninlet a x\nstream s w\nstep s", 3), ("web w\ninlet a x\nstream s w\nstep", 3),
                ("web w\ninlet a x\nstream s w\nstep s ??", 3), ("web w\ninlet a x\nstream s w\nlook s a ?", 3),
                ("web w\ninlet a x\nstream s w\nundo", 3), ("web w\ninlet a x\ndrop w\ndrop w", 3)]:
            self.unread(text, row)

    def test_each_refusal(self):
        head = f"web w\n{show_web(HOLD)}\nstream s w\n"
        many = head.count("\n")
        steps = "step s ?\n"
        for more, row in [
                ("web s\ninlet a x", 0), ("stream w w", 0), ("twin s s", 0), ("step w 1", 0), ("step s", 0), (steps * 7, 6),
                ("step s 1\n" * 41, 40), ("lift s 1 up", 0), ("lift s -1 up", 0), ("look s z 1", 0), ("look s a 1", 0),
                (steps + "look s a 1\nlook s a 2", 2), (steps + "tell s 0 1 1", 1), (steps + "tell s 0 0 1\ntell s 0 0 1", 2),
                ("drop w", 0), ("change w\ninlet a x-", 0), (steps + "lift s 0 up\nchange w\ninlet a x", 2),
                (steps * 6 + "look s a 1", 6)]:
            self.unread(head + more.rstrip("\n"), many + row)
