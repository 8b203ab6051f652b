import unittest

from holdgates.desk import Desk
from holdgates.errors import (Due, Full, Jams, Needed, NoAsk, NoBeat, NoGate, NoInlet, NoInput, NoLane, NoName, NoToken, Taken,
                              TooMany, Unfit, Unseen)
from holdgates.texts import show_web
from holdgates.webs import Web
from holdgates.yard import Yard
from holdgates.yardtexts import read_yard, show_yard
from tests.helper import DEED_WORDS, YARD_DEEDS, YARD_TEXT, anything, due, equal_kinds, luck_of, made_deed

FAR = 10 ** 12
HOLD = Web([("a", "x")], [("hold", "a", "b", 1, 0)])
ASKS = ("undo", "redo", "names", "now", "due", "fed", "carried", "can", "many", "text")


def text_of(deed):
    """A deed's rows by hand."""
    if deed[0] in ("web", "change"):
        return f"{deed[0]} {deed[1]}\n{show_web(deed[2])}"
    parts = [*deed[:2], *deed[2]] if deed[0] == "step" else deed
    return " ".join("?" if part is None else str(part) for part in parts)


def told(*rows):
    """A desk that was told some rows."""
    desk = Desk()
    for row in rows:
        assert desk.say(row) == "ok"
    return desk


def streams(*rows, web=HOLD):
    """A desk with a web w and its stream s that was told some rows."""
    return told("web w\n" + show_web(web), "stream s w", *rows)


class Says(unittest.TestCase):
    def test_deeds(self):
        desk, yard = Desk(), Yard()
        for deed in YARD_DEEDS:
            yard.do(deed)
            self.assertTrue(equal_kinds(desk.say(text_of(deed)), "ok"))
            self.assertTrue(desk.yard() == yard)
            self.assertEqual(desk.say("text"), show_yard(yard))
        self.assertEqual(desk.say(row="text"), YARD_TEXT)
        self.assertTrue(read_yard(desk.say("text")) == yard)

    def test_an_empty_desk(self):
        desk = Desk()
        for row, answer in [
                ("names", "none"), ("text", ""), ("undo", "none"), ("redo", "none")]:
            self.assertTrue(equal_kinds(desk.say(row), answer))
        self.assertTrue(desk.yard() == Yard())

    def test_undo_and_redo(self):
        desk = streams("step s 1")
        for row, answer, names in [("undo", "ok", "w s"), ("undo", "ok", "w"), ("undo", "ok", "none"),
                                   ("undo", "none", "none"),
                                   ("redo", "ok", "w"), ("redo", "ok", "w s"), ("redo", "ok", "w s"),
                                   ("redo", "none", "w s")]:
            self.assertEqual(desk.say(row), answer)
            self.assertEqual(desk.say("names"), names)
        desk.say("undo")
        self.assertEqual(due(desk.say, "step s 1 2"), (Due, 1))
        self.assertEqual(due(desk.say, "foo"), (NoAsk, "foo"))
        self.assertEqual(desk.say("redo"), "ok")
        desk.say("undo")
        desk.say("step s 2")
        self.assertEqual(desk.say("redo"), "none")

    def test_what_it_is_asked(self):
        two = Web([("a", "x"), ("b", "x-")], [("cross", "a", "b", "c", "d")])
        desk = streams("step s ? 5", "step s -3", web=two)
        for row, answer in [
                ("names", "w s"), ("now s", "2"), ("due s", "0 1"), ("fed s 0", "? -3"), ("fed s 1", "5"),
                ("carried s a", "-3"), ("carried s b", "none"), ("carried s b 2", "none"), ("carried s a 1", "?..?"),
                ("carried s c 1", "?..5"), ("carried s d 1", "5..?"), ("can s 0 0", "?..?"), ("many s 0 9", "10"),
                ("many s 9 0", "0"), ("many s -9 -9", "1")]:
            self.assertTrue(equal_kinds(desk.say(row), answer), row)
        desk.say("step s 0 0")
        self.assertEqual(desk.say("due s"), "0")
        self.assertEqual([desk.say(f"carried s {lane}") for lane in "abcd"], ["0"] * 4)
        self.assertEqual(desk.say("fed s 0"), "? -3 0")

    def test_spans(self):
        desk = streams("step s ?", "step s ?", "look s b 4", "step s 6")
        for row, answer in [
                ("can s 0 0", "4..?"), ("can s 0 1", "4..?"), ("carried s a 2", "4..?"), ("carried s b 2", "4"),
                ("carried s b", "4..6"), ("carried s b 1", "none"), ("many s 0 9", "11"), ("many s 4 4", "1")]:
            self.assertEqual(desk.say(row), answer, row)
        desk.say("tell s 0 1 4")
        self.assertEqual(desk.say("can s 0 0"), "4..?")
        desk.say("tell s 0 0 9")
        self.assertEqual(due(desk.say, "can s 0 0"), (NoInput, 0, 0))
        self.assertEqual(desk.say("many s 0 0"), "1")
        most = streams("step s ?", "step s ?", "look s b 4", "look s a 4", web=Web([("a", "x")], [("hold", "a", "b", 1, 1)]))
        self.assertEqual([most.say("can s 0 0"), most.say("can s 0 1")], ["?..4", "4"])

    def test_nothing_to_list(self):
        desk = streams("step s", web=Web([("a", "-x-")]))
        self.assertEqual([desk.say("due s"), desk.say("fed s 0"), desk.say("carried s a")], ["0", "none", "none"])
        desk.say("step s ?")
        self.assertEqual([desk.say("due s"), desk.say("fed s 0"), desk.say("carried s a")], ["none", "?", "?..?"])

    def test_numbers_of_thousands_of_figures(self):
        desk = streams("step s ?", "step s ?")
        long = "9" * 6000
        self.assertEqual(desk.say(f"many s 1 {'3' * 60}"), str(int("3" * 60) ** 2))
        self.assertEqual(desk.say(f"many s {long} {long}"), "1")
        self.assertEqual(desk.say(f"many s -{long} -{long}"), "1")
        self.assertEqual(desk.say(f"many s 0 {long}"), "1" + "0" * 12000)
        self.assertEqual(desk.say(f"many s {long} 0"), "0")
        self.assertEqual(desk.say(f"many s {'9' * 5999}8 {long}"), "4")
        self.assertEqual(due(desk.say, f"step s {long}"), (NoAsk, f"step s {long}"))
        self.assertEqual(due(desk.say, f"fed s {long}"), (NoInlet, 10 ** 6000 - 1))
        self.assertEqual(due(desk.say, f"carried s a {long}"), (NoBeat, 10 ** 6000 - 1))
        self.assertEqual(due(desk.say, f"can s 0 -{long}"), (NoInput, 0, 1 - 10 ** 6000))
        self.assertEqual(due(desk.say, f"lift s {long} up"), (NoGate, 10 ** 6000 - 1))

    def test_beside_its_yard(self):
        counts = {}
        for seed in range(40):
            luck, desk, yard = luck_of(seed + 3000), Desk(), Yard()
            for _ in range(40):
                turn = luck.random()
                if turn < 0.2:
                    back, row = luck.choice([(yard.undo, "undo"), (yard.redo, "redo")])
                    self.assertEqual(desk.say(row), "ok" if back() else "none")
                else:
                    deed = made_deed(luck, yard)
                    refused = due(yard.do, deed)
                    self.assertTrue(equal_kinds(due(desk.say, text_of(deed)), refused))
                    counts[refused and refused[0]] = counts.get(refused and refused[0], 0) + 1
                self.agree(luck, desk, yard)
        self.assertTrue(len(counts) > 8 and counts[None] > 200, counts)

    def agree(self, luck, desk, yard):
        self.assertTrue(desk.yard() == yard)
        self.assertEqual(desk.say("text"), show_yard(yard))
        self.assertEqual(desk.say("names"), " ".join(yard.names()) or "none")
        for name in yard.names():
            if due(yard.now, name):
                self.assertEqual(due(desk.say, f"now {name}"), (NoName, name))
                continue
            self.assertEqual(desk.say(f"now {name}"), str(yard.now(name)))
            self.assertEqual(desk.say(f"due {name}"), " ".join(map(str, yard.due(name))) or "none")
            for inlet, row in enumerate(yard.fed(name)):
                told_row = " ".join("?" if part is None else str(part) for part in row)
                self.assertEqual(desk.say(f"fed {name} {inlet}"), told_row or "none")
            for (inlet, nth), span in zip(yard.hidden(name), yard.can_be(name)):
                self.assertEqual(desk.say(f"can {name} {inlet} {nth}"), span_by_hand(span))
            self.assertEqual(desk.say(f"many {name} -1 3"), str(yard.within(name, -1, 3)))
            lane, beat = luck.choice(yard.course(name).web().lanes()), luck.randint(0, yard.now(name))
            for row, more in [(f"carried {name} {lane}", {}), (f"carried {name} {lane} {beat}", {"beat": beat})]:
                refused = due(yard.carried, name, lane, **more)
                self.assertTrue(equal_kinds(due(desk.say, row), refused))
                if refused is None:
                    self.assertEqual(desk.say(row), span_by_hand(yard.carried(name, lane, **more)))

    def test_names_that_are_words(self):
        desk = told("web undo\ninlet names x", "stream names undo", "stream text undo", "step names ?",
        "twin names redo", "drop text",
                    "stream none undo")
        for row, answer in [
                ("names", "undo names redo none"), ("now names", "1"), ("carried names names", "?..?"),
                ("fed redo 0", "?"), ("now none", "0"), ("fed none 0", "none")]:
            self.assertEqual(desk.say(row), answer)
        desk.say("look redo names 5")
        self.assertEqual([desk.say("can redo 0 0"), desk.say("undo"), desk.say("can redo 0 0"), desk.say("redo")],
                         ["5", "ok", "?..?", "ok"])


def span_by_hand(span):
    if span is None:
        return "none"
    if span[0] is not None and span[0] == span[1]:
        return str(span[0])
    return "..".join("?" if end is None else str(end) for end in span)


class Yards(unittest.TestCase):
    def test_a_copy_with_what_was_taken_back(self):
        desk = streams("step s 1", "step s 2")
        desk.say("undo")
        yard = desk.yard()
        self.assertIsInstance(yard, Yard)
        self.assertIs(yard.redo(), True)
        self.assertEqual(yard.now("s"), 2)
        yard.do(("drop", "s"))
        self.assertEqual([desk.say("now s"), desk.say("names")], ["1", "w s"])
        self.assertEqual([desk.say("redo"), desk.say("now s")], ["ok", "2"])
        self.assertEqual(yard.names(), ["w"])
        again = desk.yard()
        desk.say("undo")
        self.assertEqual(again.now("s"), 2)
        self.assertIs(again.undo(), True)
        self.assertTrue(again == desk.yard())
        self.assertIs(again.redo(), True)
        self.assertIs(again.redo(), False)


class Equal(unittest.TestCase):
    def test_equal_where_their_yards_are(self):
        self.assertTrue(Desk() == Desk())
        self.assertTrue(streams("step s 1") == streams("step s 1"))
        self.assertTrue(streams() != streams("step s 1"))
        for thing in anything():
            self.assertIs(Desk() == thing, False)
        self.assertFalse(Desk() == Yard())
        self.assertFalse(Yard() == Desk())


class Refused(unittest.TestCase):
    def refused(self, desk, row, *found):
        """A row is refused so, and all is as it was, also what was taken back."""
        before, names = desk.say("text"), desk.say("names")
        self.assertTrue(equal_kinds(due(desk.say, row), found), (row, due(desk.say, row)))
        self.assertEqual((desk.say("text"), desk.say("names")), (before, names))
        yard = desk.yard()
        self.assertEqual(desk.say("redo"), "ok" if yard.redo() else "none")
        self.assertTrue(desk.yard() == yard)

    def test_no_ask_of_anything(self):
        desk = streams("step s 1", "step s 2")
        desk.say("undo")
        for thing in anything():
            self.assertTrue(equal_kinds(due(desk.say, thing), (NoAsk, thing)))
            self.assertTrue(equal_kinds(due(desk.say, [thing]), (NoAsk, [thing])))
        asked = [1, [2]]
        refused = due(desk.say, asked)
        asked[1].append(3)
        self.assertEqual(refused, (NoAsk, [1, [2]]))
        self.assertEqual(desk.say("redo"), "ok")

    def test_no_ask(self):
        desk = streams("step s ?")
        for row in [
                "", " ", "\n", "foo", "names ", " names", "names s", "names\n", "text text", "text\n", "undo 1",
                "undo ", "redo s", "now", "now ", "now S", "now s s", "now s 1", "now 1", "now  s", "now s\n", "due",
                "due s 0", "fed s", "fed s 00", "fed s -0", "fed s +0", "fed s a", "fed s 0 0", "fed S 0", "fed s 0 ",
                "fed s \u0660", "carried s", "carried s A", "carried s a 01", "carried s a 1 1", "carried s a a",
                "carried s 1", "carried s 1 a", "carried S a", "can s 0", "can s 0 0 0", "can s 0 00", "can s a 0",
                "can S 0 0", "many s 0", "many s 0 9 9", "many s 0 09", "many s ? 9", "many s 1.5 9", "many S 0 9",
                "now s\t", "NAMES", "names\r", "now ssssssssss", "abcdefghi", "carried s abcdefghi", "name s",
                "ask names"]:
            self.refused(desk, row, NoAsk, row)

    def test_what_is_no_deed(self):
        desk = streams("step s ?")
        for row in [
                "web", "web v", "web v ", "web v\n", "web v\ninlet", "web v\ninlet a x\n", "web V\ninlet a x",
                "web v v\ninlet a x", "web\ninlet a x", " web v\ninlet a x", "web v \ninlet a x",
                "web v\n\ninlet a x", "web v\ninlet a x\nwait b c 0", "web v\ninlet a x\nlift 0 0 up",
                "web v\ninlet a x\nstream s v", "change w", "change w\nwait a b 0", "change W\ninlet a x", "stream s",
                "stream t w w", "stream t W", "stream t w\n", "stream t w\ninlet a x", "step", "step s 01",
                "step s -0", "step s ??", f"step s {FAR + 1}", f"step s -{FAR + 1}", "step s none", "step s 1 ",
                "step s  1", "step S 1", "lift s 0 UP", "lift s 00 up", "lift s 0", "lift s up 0", "look s a",
                f"look s a {FAR + 1}", "look s A 1", "look s a ?", "tell s 0 0", f"tell s 0 0 {FAR + 1}",
                "tell s 0 0 ?", "tell s 0 00 1", "twin s", "twin s T", "drop", "drop s s", "drop S", "drop s\n"]:
            self.refused(desk, row, NoAsk, row)

    def test_then_as_in_the_yard(self):
        desk = streams("step s ?", "step s 3")
        for row, *found in [
                ("now t", NoName, "t"), ("due w", NoName, "w"), ("fed t 9", NoName, "t"), ("fed s 1", NoInlet, 1),
                ("fed s -1", NoInlet, -1), ("carried t z 9", NoName, "t"), ("carried s z 9", NoLane, "z"),
                ("carried s a 0", NoBeat, 0), ("carried s a 3", NoBeat, 3), ("carried s a -1", NoBeat, -1),
                ("can t 0 0", NoName, "t"), ("can s 0 1", NoInput, 0, 1), ("can s 1 0", NoInput, 1, 0),
                ("can s -1 0", NoInput, -1, 0), ("many w 0 9", NoName, "w"), ("stream s w", Taken, "s"),
                ("stream t t", NoName, "t"), ("web w\ninlet a x", Taken, "w"), ("step s", Due, 1),
                ("step s 1 2", Due, 1), ("step w 1", NoName, "w"), ("lift s 1 up", NoGate, 1),
                ("lift s -1 up", NoGate, -1), ("look s z 1", NoLane, "z"), ("look s a 4", Unseen, "s"),
                ("tell s 0 1 4", NoInput, 0, 1), ("twin s w", Taken, "w"), ("twin t u", NoName, "t"),
                ("drop w", Needed, "w"), ("drop t", NoName, "t"), ("change s\ninlet a x", NoName, "s"),
                ("change w\ninlet a x-", Unfit, "w")]:
            self.refused(desk, row, *found)
        early = streams()
        self.refused(early, "look s a 1", NoToken, "a")
        self.refused(early, "carried s a", NoBeat, 0)
        full = streams(*["step s ?"] * 6)
        self.refused(full, "step s ?", Full, 6)
        self.refused(full, "look s a 1", TooMany, 200)
        jams = streams("step s 1 1", web=Web([("a", "x"), ("b", "x")], [("join", "a", "b", "c", 1)]))
        self.refused(jams, "step s 1 1", Jams, 2)

    def test_each_word_was_asked(self):
        self.assertEqual(len(set(DEED_WORDS) | set(ASKS)), 19)
