import itertools
import unittest

from holdgates.courses import Course
from holdgates.errors import Jams, LikeLane, NoLane, NoNames, NoWeb
from holdgates.kin import behind, beside, mirrored, pruned, renamed
from holdgates.names import is_name
from holdgates.runs import run
from holdgates.webs import Web
from tests.helper import (LINE, TWO, Hand, anything, by_feed, equal_kinds, luck_of, made_course, made_feed, made_web,
                          unchanged)

# All six kinds of gates.
ALL = Web([("a", "x"), ("b", "x-")], [
    ("hold", "a", "c", 2, 1), ("wait", "b", "d", 1), ("cross", "c", "d", "e", "f"), ("lag", "e", "g", 2),
    ("deal", "g", "h", "i", "llr"), ("join", "h", "f", "j", 5)])
# Holds of 6 and 6, and one of 7.
SIX = Web([("a", "x")], [("hold", "a", "b", 6, 0)])
SIXTH = Web([("c", "x")], [("wait", "c", "d", 6)])
SEVEN = Web([("c", "x")], [("lag", "c", "d", 7)])


def line(name, gates):
    """A web of one inlet and so many gates in a row, its lanes by this letter."""
    lanes = [name + letter for letter in "abcdefghijklm"]
    return Web([(lanes[0], "x")], [("wait", lanes[at], lanes[at + 1], 0) for at in range(gates)])


def told(web):
    return web.inlets(), web.gates()


def rows_of(course, feed, beats):
    """(lane: what it carries beat by beat, the beat at which the web jams or None)."""
    try:
        rows, jam = run(course, feed, beats), None
    except Jams as due:
        rows, jam = run(course, feed, due.beat - 1), due.beat
    lanes = course.web().lanes()
    return {lane: [row[at] for row in rows] for at, lane in enumerate(lanes)}, jam


class Renamed(unittest.TestCase):
    def test_all_gates(self):
        names = dict(zip("abcdefghij", ["j", "x", "hold", "lr", "zzzzzzzz", "q", "a", "b", "c", "llr"]))
        web = renamed(web=ALL, names=names)
        self.assertIsInstance(web, Web)
        self.assertTrue(equal_kinds(told(web), ([("j", "x"), ("x", "x-")], [
            ("hold", "j", "hold", 2, 1), ("wait", "x", "lr", 1), ("cross", "hold", "lr", "zzzzzzzz", "q"),
            ("lag", "zzzzzzzz", "a", 2), ("deal", "a", "b", "c", "llr"), ("join", "b", "q", "llr", 5)])))

    def test_lanes_that_are_called_as_texts(self):
        web = Web([("lr", "x")], [("deal", "lr", "l", "r", "lr")])
        self.assertEqual(told(renamed(web, {"lr": "r", "l": "lr", "r": "l"})),
                         ([("r", "x")], [("deal", "r", "lr", "l", "lr")]))

    def test_runs_at_the_new_names(self):
        luck = luck_of(51)
        for _ in range(150):
            web = made_web(luck)
            lanes = web.lanes()
            fresh = luck.sample(lanes + ["qq", "ww", "ee"], len(lanes))
            names = dict(luck.sample(list(zip(lanes, fresh)), len(lanes)))
            course = made_course(luck, web, [0, 1, 5, 9])
            feed = made_feed(luck, web, 20)
            rows, jam = rows_of(course, feed, 20)
            shown, other = rows_of(Course(unchanged(renamed, web, names), lifts=course.lifts()), feed, 20)
            self.assertEqual(jam, other)
            self.assertEqual({names[lane]: rows[lane] for lane in lanes}, shown)
            back = renamed(renamed(web, names), {names[lane]: lane for lane in lanes})
            self.assertTrue(back == web)

    def test_dicts_that_are_none(self):
        good = {"a": "b", "b": "a"}
        web = Web([("a", "x")], [("wait", "a", "b", 1)])
        self.assertEqual(told(renamed(web, good)), ([("b", "x")], [("wait", "b", "a", 1)]))
        wrong = [{}, {"a": "b"}, {"b": "a"}, {"a": "b", "b": "b"}, {"a": "b", "b": "a", "c": "d"}, {"a": "b", "c": "a"},
                 {"a": "b", "b": "a", None: "c"}, {"a": "b", "b": "a", 0: "c"}, {"a": "b", "b": "c", "c": "a"},
                 {"a": "b", ("b",): "a"}, [("a", "b"), ("b", "a")], ("a", "b"), ["a", "b"], "ab", [good], (good,)]
        for thing in anything():
            if not is_name(thing):
                wrong.append({"a": "b", "b": thing})
                wrong.append({"a": thing, "b": "c"})
            wrong.append(thing)
        for thing in wrong:
            with self.assertRaises(NoNames) as caught:
                renamed(web, thing)
            self.assertIs(type(caught.exception), NoNames)
            self.assertTrue(equal_kinds(caught.exception.asked, thing))

    def test_what_is_refused_is_told_as_a_copy(self):
        names = {"a": ["b"]}
        with self.assertRaises(NoNames) as caught:
            renamed(LINE, names)
        names["a"].append("c")
        names["b"] = 1
        self.assertEqual(caught.exception.asked, {"a": ["b"]})

    def test_a_web_without_gates(self):
        self.assertEqual(told(renamed(LINE, {"a": "a"})), ([("a", "x")], []))
        self.assertEqual(told(renamed(LINE, {"a": "b"})), ([("b", "x")], []))


class Mirrored(unittest.TestCase):
    def test_all_gates(self):
        self.assertTrue(equal_kinds(told(mirrored(web=ALL)), (ALL.inlets(), [
            ("hold", "a", "c", 2, 1), ("wait", "b", "d", 1), ("cross", "d", "c", "f", "e"), ("lag", "e", "g", 2),
            ("deal", "g", "h", "i", "llr"), ("join", "h", "f", "j", 5)])))
        for c in range(13):
            for r in range(c + 1):
                web = mirrored(Web([("a", "x")], [("hold", "a", "b", c, r)]))
                self.assertTrue(equal_kinds(web.gates(), [("hold", "a", "b", c, c - r)]))

    def test_numbers_below_nought(self):
        luck, jams = luck_of(52), 0
        for _ in range(200):
            web = made_web(luck)
            course = made_course(luck, web, [0, 1, 5, 9])
            feed = made_feed(luck, web, 25)
            other = Course(unchanged(mirrored, web), lifts=course.lifts())
            rows, jam = rows_of(course, feed, 25)
            shown, late = rows_of(other, tuple(tuple(-number for number in row) for row in feed), 25)
            jams += jam is not None
            self.assertEqual(jam, late)
            self.assertEqual(rows, {lane: [token and -token for token in shown[lane]] for lane in shown})
            self.assertTrue(mirrored(mirrored(web)) == web)
        self.assertTrue(jams > 10)


class Beside(unittest.TestCase):
    def test_the_first_ones_then_the_others(self):
        other = Web([("x", "-x")], [("wait", "x", "y", 2)])
        web = beside(one=ALL, other=other)
        self.assertIsInstance(web, Web)
        self.assertTrue(equal_kinds(told(web), (ALL.inlets() + other.inlets(), ALL.gates() + other.gates())))
        self.assertTrue(equal_kinds(told(beside(other, ALL)), (
            other.inlets() + ALL.inlets(), other.gates() + ALL.gates())))

    def test_runs_of_both(self):
        luck, done = luck_of(53), 0
        for _ in range(150):
            one = made_web(luck, luck.randint(0, 5), most=6, inlets=luck.choice([1, 2]))
            other = made_web(luck, luck.randint(0, 5), most=6, inlets=1)
            other = renamed(other, dict(zip(other.lanes(), ["z" + letter for letter in "abcdefghijklmnop"])))
            web = unchanged(beside, one, other)
            feed, more = made_feed(luck, one, 15), made_feed(luck, other, 15)
            rows, jam = rows_of(Course(web), feed + more, 15)
            first, sooner = rows_of(Course(one), feed, 15)
            second, later = rows_of(Course(other), more, 15)
            self.assertEqual(jam, min([beat for beat in (sooner, later) if beat is not None], default=None))
            if jam is None:
                done += 1
                self.assertEqual(rows, {**first, **second})
        self.assertTrue(done > 60)

    def test_lanes_that_both_have(self):
        other = Web([("x", "x"), ("y", "x")], [("cross", "x", "y", "j", "a")])
        for one, two, due in [(ALL, other, "j"), (other, ALL, "a"), (ALL, ALL, "a"), (LINE, TWO, "a"),
                              (Web([("e", "x")]), TWO, "e"), (TWO, Web([("z", "x")], [("lag", "z", "d", 1)]), "d")]:
            with self.assertRaises(LikeLane) as caught:
                beside(one, two)
            self.assertIs(type(caught.exception), LikeLane)
            self.assertTrue(equal_kinds(caught.exception.lane, due))

    def test_like_lanes_ahead_of_too_many(self):
        three = Web([("a", "x"), ("b", "x"), ("c", "x")])
        with self.assertRaises(LikeLane) as caught:
            beside(three, Web([("d", "x"), ("b", "x")]))
        self.assertEqual(caught.exception.lane, "b")
        with self.assertRaises(LikeLane):
            beside(line("a", 6), line("a", 5))

    def check_no_web(self, ask, field, at):
        with self.assertRaises(NoWeb) as caught:
            ask()
        self.assertIs(type(caught.exception), NoWeb)
        self.assertTrue(equal_kinds((caught.exception.field, caught.exception.at), (field, at)))

    def test_three_and_four_inlets(self):
        two = Web([("a", "x"), ("b", "x")])
        self.assertEqual(len(beside(two, Web([("c", "x")])).inlets()), 3)
        self.check_no_web(lambda: beside(two, Web([("c", "x"), ("d", "x")])), "inlets", -1)
        self.check_no_web(lambda: beside(Web([("c", "x"), ("d", "x"), ("e", "x")]), two), "inlets", -1)

    def test_ten_and_eleven_gates(self):
        self.assertEqual(len(beside(line("a", 4), line("b", 6))), 10)
        self.check_no_web(lambda: beside(line("a", 5), line("b", 6)), "gates", -1)
        four = Web([("x", "x"), ("y", "x"), ("z", "x")], line("b", 0).gates())
        self.check_no_web(lambda: beside(four, line("b", 10)), "inlets", -1)

    def test_12_and_13_kept_together(self):
        self.assertEqual(len(beside(SIX, SIXTH)), 2)
        self.check_no_web(lambda: beside(SIX, SEVEN), "gates", 1)
        self.check_no_web(lambda: beside(SEVEN, SIX), "gates", 1)
        late = Web([("e", "x")], [("deal", "e", "f", "g", "l"), ("wait", "g", "h", 6), ("lag", "h", "i", 1)])
        self.check_no_web(lambda: beside(SIX, late), "gates", 3)
        self.check_no_web(lambda: beside(late, SIX), "gates", 3)


class Fed(Hand):
    """A web by hand whose inlets carry what is told beat by beat."""

    def __init__(self, web, told):
        super().__init__(web.inlets(), web.gates(), [], None)
        self.told = told

    def go(self):
        lanes = dict(zip([lane for lane, _ in self.inlets], self.told[self.beat]))
        self.beat += 1
        for at, gate in enumerate(self.gates):
            getattr(self, gate[0])(at, gate, lanes)
        return lanes


class Behind(unittest.TestCase):
    def test_all_gates(self):
        other = Web([("x", "x"), ("y", "--x")], [("cross", "y", "x", "z", "w"), ("lag", "w", "v", 1)])
        web = behind(one=ALL, other=other, names={"x": "j", "y": "i"})
        self.assertIsInstance(web, Web)
        self.assertTrue(equal_kinds(told(web), (ALL.inlets(), ALL.gates() + [
            ("cross", "i", "j", "z", "w"), ("lag", "w", "v", 1)])))
        self.assertEqual(told(behind(ALL, LINE, {"a": "i"})), told(ALL))

    def test_inlets_called_as_lanes_of_the_first(self):
        other = Web([("b", "x"), ("j", "x")], [("cross", "j", "b", "y", "z")])
        web = behind(ALL, other, {"j": "i", "b": "j"})
        self.assertEqual(web.gates()[-1], ("cross", "i", "j", "y", "z"))
        self.assertEqual(told(behind(LINE, Web([("a", "x")], [("wait", "a", "b", 1)]), {"a": "a"})),
                         ([("a", "x")], [("wait", "a", "b", 1)]))

    def test_runs(self):
        luck, done = luck_of(54), 0
        for _ in range(400):
            one = made_web(luck, luck.randint(0, 5), most=6)
            other = made_web(luck, luck.randint(0, 5), most=6)
            inlets = [lane for lane, _ in other.inlets()]
            names = {lane: lane if lane in inlets else "z" + "abcdefghijklmnop"[at]
                     for at, lane in enumerate(other.lanes())}
            other = renamed(other, names)
            if len(one.outlets()) < len(inlets):
                continue
            chosen = dict(zip(inlets, luck.sample(one.outlets(), len(inlets))))
            web = unchanged(behind, one, other, chosen)
            feed = made_feed(luck, one, 15)
            rows, jam = rows_of(Course(web), feed, 15)
            first, sooner = rows_of(Course(one), feed, 15)
            if jam is not None or sooner is not None:
                self.assertTrue(jam is not None and (sooner is None or jam <= sooner))
                continue
            done += 1
            hand = Fed(other, [[first[chosen[lane]][beat] for lane in inlets] for beat in range(15)])
            shown = [hand.go() for _ in range(15)]
            for lane in other.lanes()[len(inlets):]:
                first[lane] = [row[lane] for row in shown]
            self.assertEqual(rows, first)
        self.assertTrue(done > 100, done)

    def test_dicts_that_are_none(self):
        other = Web([("x", "x"), ("y", "x")], [("cross", "x", "y", "z", "w")])
        one = Web([("a", "x"), ("b", "x")], [("deal", "a", "c", "d", "lr")])
        self.assertEqual(one.outlets(), ["b", "c", "d"])
        for pair in itertools.permutations(["b", "c", "d"], 2):
            self.assertEqual(behind(one, other, dict(zip("xy", pair))).gates()[-1], ("cross", *pair, "z", "w"))
        wrong = [{"x": "b", "y": "b"}, {"x": "a", "y": "b"}, {"x": "b", "y": "a"}, {"x": "b"}, {"y": "b"}, {},
                 {"x": "b", "y": "c", "z": "d"}, {"x": "b", "y": "c", "w": "z"}, {"x": "b", "z": "c"},
                 {"x": "b", "y": "z"}, {"x": "x", "y": "y"}, {"b": "x", "c": "y"}, {"x": "b", "y": "c", 1: "d"},
                 ("b", "c"), [("x", "b"), ("y", "c")]]
        for thing in anything():
            wrong.append(thing)
            wrong.append({"x": "b", "y": thing})
            wrong.append({"x": thing, "y": "b"})
        for thing in wrong:
            with self.assertRaises(NoNames) as caught:
                behind(one, other, thing)
            self.assertIs(type(caught.exception), NoNames)
            self.assertTrue(equal_kinds(caught.exception.asked, thing))

    def test_one_lane_to_none(self):
        taken = Web([("a", "x")], [("wait", "a", "b", 1)])
        for names in [{"a": "a"}, {"a": "z"}, {}, {"b": "b"}]:
            with self.assertRaises(NoNames):
                behind(taken, LINE, names)
        self.assertTrue(behind(taken, LINE, {"a": "b"}) == taken)

    def test_lanes_that_both_have(self):
        for names, due in [({"x": "i"}, "a"), ({"a": "i"}, None), ({"x": "a"}, None)]:
            other = Web([("x", "x")], [("deal", "x", "y", "a", "l"), ("wait", "y", "j", 1)])
            with self.assertRaises(LikeLane if due else NoNames) as caught:
                behind(ALL, other, names)
            if due:
                self.assertIs(type(caught.exception), LikeLane)
                self.assertEqual(caught.exception.lane, due)
        with self.assertRaises(LikeLane) as caught:
            behind(ALL, Web([("a", "x")], [("deal", "a", "z", "j", "l"), ("wait", "z", "i", 1)]), {"a": "j"})
        self.assertEqual(caught.exception.lane, "j")

    def test_its_inlets_aside(self):
        other = Web([("a", "x"), ("c", "x")], [("cross", "a", "c", "y", "z")])
        web = behind(ALL, other, {"a": "i", "c": "j"})
        self.assertEqual(web.gates()[-1], ("cross", "i", "j", "y", "z"))

    def test_too_many(self):
        no_web = Beside.check_no_web
        self.assertEqual(len(behind(line("a", 4), line("b", 6), {"ba": "ae"})), 10)
        no_web(self, lambda: behind(line("a", 4), line("b", 7), {"ba": "ae"}), "gates", -1)
        self.assertEqual(len(behind(SIX, SIXTH, {"c": "b"})), 2)
        no_web(self, lambda: behind(SIX, SEVEN, {"c": "b"}), "gates", 1)
        with self.assertRaises(NoNames):
            behind(SIX, SEVEN, {"c": "a"})
        with self.assertRaises(LikeLane):
            behind(SIX, Web([("c", "x")], [("lag", "c", "a", 7)]), {"c": "b"})
        three = Web([("u", "x"), ("v", "x"), ("w", "x")])
        self.assertTrue(behind(three, Web([("c", "x"), ("d", "x"), ("e", "x")]), {"c": "u", "d": "w", "e": "v"}) == three)


class Pruned(unittest.TestCase):
    def test_just_what_is_needed(self):
        self.assertTrue(equal_kinds(told(pruned(web=ALL, lanes=["c"])), ([("a", "x")], [("hold", "a", "c", 2, 1)])))
        self.assertEqual(told(pruned(ALL, ("d", "c"))), (ALL.inlets(), ALL.gates()[:2]))
        self.assertEqual(told(pruned(ALL, ["b"])), ([("b", "x-")], []))
        self.assertEqual(told(pruned(ALL, ["d", "d"])), ([("b", "x-")], [("wait", "b", "d", 1)]))
        self.assertEqual(told(pruned(ALL, ["i"])), (ALL.inlets(), ALL.gates()[:5]))
        self.assertEqual(told(pruned(ALL, ["f", "i"])), (ALL.inlets(), ALL.gates()[:5]))
        self.assertEqual(told(pruned(ALL, ["f"])), (ALL.inlets(), ALL.gates()[:3]))
        self.assertTrue(pruned(ALL, ["j"]) == ALL)
        self.assertTrue(pruned(ALL, ALL.lanes()) == ALL)
        self.assertEqual(told(pruned(ALL, ["b", "a"])), (ALL.inlets(), []))

    def test_of_no_lane_there_is_no_web(self):
        for lanes in [[], ()]:
            with self.assertRaises(NoWeb) as caught:
                pruned(ALL, lanes)
            self.assertEqual((caught.exception.field, caught.exception.at), ("inlets", -1))

    def test_runs_by_its_inlets_rows(self):
        luck, done = luck_of(55), 0
        for _ in range(300):
            web = made_web(luck)
            lanes = luck.sample(web.lanes(), min(len(web.lanes()), luck.randint(1, 2)))
            made = unchanged(pruned, web, lanes)
            inlets = [at for at, inlet in enumerate(web.inlets()) if inlet in made.inlets()]
            self.assertTrue(set(lanes) <= set(made.lanes()))
            self.assertEqual([gate for gate in web.gates() if gate in made.gates()], made.gates())
            self.assertEqual([inlet for inlet in web.inlets() if inlet in made.inlets()], made.inlets())
            for lane in made.outlets():
                self.assertTrue(lane in lanes or any(
                    gate[0] in ("deal", "cross") and lane in gate[2:5] for gate in made.gates()))
            feed = made_feed(luck, web, 20)
            rows, jam = rows_of(Course(web), feed, 20)
            if jam is None:
                done += 1
                shown, _ = rows_of(Course(made), tuple(feed[at] for at in inlets), 20)
                self.assertEqual(shown, {lane: rows[lane] for lane in made.lanes()})
        self.assertTrue(done > 100)

    def test_no_lane_of_anything(self):
        for thing in anything() + ["zz"]:
            if isinstance(thing, str) and thing in ALL.lanes():
                continue
            for lanes in [[thing], (thing,), ["a", thing], ["j", thing, None], [thing, "zz", "a"]]:
                with self.assertRaises(NoLane) as caught:
                    pruned(ALL, lanes)
                self.assertIs(type(caught.exception), NoLane)
                self.assertTrue(equal_kinds(caught.exception.lane, thing))


class ByHandKin(unittest.TestCase):
    def test_a_run_of_all_gates_behind(self):
        # The last hold lets the least of three go, as j carries them.
        web = behind(ALL, Web([("x", "x")], [("hold", "x", "k", 2, 0)]), {"x": "j"})
        feed = (tuple(range(20, 0, -1)), tuple(range(5, 15)))
        hand = Hand(web.inlets(), web.gates(), [], by_feed(feed))
        self.assertEqual(run(Course(web), feed, 20), [hand.go() for _ in range(20)])
