import unittest

from holdgates.courses import Course
from holdgates.errors import NoLane, NoWeb
from holdgates.webs import Web
from tests.helper import LINE, TWO, anything, deep, equal_kinds, luck_of, made_web

ONE_IN = [("a", "x")]
TWO_IN = [("a", "x"), ("b", "x-")]
ALL_KINDS = [
    ("hold", "a", "d", 3, 2), ("wait", "b", "e", 2), ("lag", "c", "f", 1), ("deal", "d", "g", "h", "llr"),
    ("join", "e", "g", "i", 4), ("cross", "f", "i", "j", "k"),
]


def refused(inlets, gates=()):
    """The fields of the NoWeb that is due."""
    try:
        Web(inlets, gates)
    except NoWeb as told:
        return told.field, told.at
    return None


def gates_of(many, first="a"):
    """So many waits of c 0, one behind the other."""
    lanes = [first] + ["w" + "abcdefghijklm"[at] for at in range(many)]
    return [("wait", lanes[at], lanes[at + 1], 0) for at in range(many)]


class Made(unittest.TestCase):
    def test_lists_and_tuples(self):
        inlets = [("a", "x"), ("b", "x-"), ("c", "xx-")]
        webs = [Web(inlets, ALL_KINDS), Web(tuple(inlets), tuple(ALL_KINDS)), Web(inlets, tuple(ALL_KINDS)),
                Web(gates=ALL_KINDS, inlets=inlets), Web(inlets, gates=ALL_KINDS)]
        for web in webs:
            self.assertTrue(equal_kinds(web.inlets(), inlets))
            self.assertTrue(equal_kinds(web.gates(), ALL_KINDS))
            self.assertEqual(len(web), 6)
            self.assertTrue(web == webs[0])
            self.assertFalse(web != webs[0])

    def test_gates_left_out(self):
        for web in [Web(ONE_IN), Web(ONE_IN, []), Web(ONE_IN, ()), Web(inlets=ONE_IN)]:
            self.assertTrue(equal_kinds(web.gates(), []))
            self.assertEqual(len(web), 0)
            self.assertEqual(web.lanes(), ["a"])
            self.assertEqual(web.outlets(), ["a"])
            self.assertEqual(web.common(), 1)

    def test_rhythms_and_texts_stay_as_told(self):
        inlets, gates = [("a", "x-x-")], [("deal", "a", "b", "c", "lrlr")]
        self.assertEqual(Web(inlets, gates).inlets(), inlets)
        self.assertEqual(Web(inlets, gates).gates(), gates)

    def test_as_many_as_may_be(self):
        for many in range(1, 4):
            inlets = [("abc"[at], "x") for at in range(many)]
            self.assertEqual(Web(inlets).lanes(), list("abc"[:many]))
        for many in range(11):
            self.assertEqual(len(Web(ONE_IN, gates_of(many))), many)

    def test_lanes_may_be_called_as_words_are(self):
        web = Web([("hold", "x"), ("lr", "x")], [("cross", "hold", "lr", "cross", "wait"), ("deal", "wait", "l", "r", "l")])
        self.assertEqual(web.lanes(), ["hold", "lr", "cross", "wait", "l", "r"])


class Told(unittest.TestCase):
    def setUp(self):
        self.web = Web([("a", "x"), ("b", "x-"), ("c", "x--")], ALL_KINDS)

    def test_lanes(self):
        self.assertTrue(equal_kinds(self.web.lanes(), ["a", "b", "c", "d", "e", "f", "g", "h", "i", "j", "k"]))

    def test_outlets(self):
        self.assertTrue(equal_kinds(self.web.outlets(), ["h", "j", "k"]))
        self.assertEqual(Web(TWO_IN, [("wait", "b", "c", 1)]).outlets(), ["a", "c"])
        self.assertEqual(Web(TWO_IN, [("deal", "a", "d", "c", "l")]).outlets(), ["b", "d", "c"])

    def test_common(self):
        self.assertTrue(equal_kinds(self.web.common(), 6))
        for rhythms, common in [(["x"], 1), (["x-x-"], 4), (["x---", "x-----"], 12), (["x-", "x--", "x-----"], 6),
                                (["x---", "x----", "x-----"], 60), (["x-", "x-"], 2)]:
            web = Web([("abc"[at], rhythm) for at, rhythm in enumerate(rhythms)])
            self.assertEqual(web.common(), common)

    def test_needed(self):
        told = {"a": [], "b": [], "c": [], "d": [0], "e": [1], "f": [2], "g": [0, 3], "h": [0, 3],
                "i": [0, 1, 3, 4], "j": [0, 1, 2, 3, 4, 5], "k": [0, 1, 2, 3, 4, 5]}
        for lane, gates in told.items():
            self.assertTrue(equal_kinds(self.web.needed(lane), gates), lane)
            self.assertEqual(self.web.needed(lane=lane), gates)

    def test_sources(self):
        told = {"a": [0], "b": [1], "c": [2], "d": [0], "e": [1], "f": [2], "g": [0], "h": [0],
                "i": [0, 1], "j": [0, 1, 2], "k": [0, 1, 2]}
        for lane, inlets in told.items():
            self.assertTrue(equal_kinds(self.web.sources(lane), inlets), lane)
            self.assertEqual(self.web.sources(lane=lane), inlets)

    def test_by_lanes_alone(self):
        web = Web(TWO_IN, [("deal", "a", "c", "d", "l"), ("cross", "d", "b", "e", "f"), ("hold", "c", "g", 0, 0)])
        self.assertEqual((web.sources("d"), web.needed("d")), ([0], [0]))
        self.assertEqual((web.sources("e"), web.needed("e")), ([0, 1], [0, 1]))
        self.assertEqual((web.sources("f"), web.needed("f")), ([0, 1], [0, 1]))
        self.assertEqual((web.sources("g"), web.needed("g")), ([0], [0, 2]))

    def test_sources_and_needed_by_hand(self):
        luck = luck_of(11)
        for _ in range(200):
            web = made_web(luck)
            behind = {lane: ({at}, set()) for at, (lane, rhythm) in enumerate(web.inlets())}
            for at, gate in enumerate(web.gates()):
                takes = 2 if gate[0] in ("join", "cross") else 1
                gives = 2 if gate[0] in ("deal", "cross") else 1
                inlets = set().union(*[behind[lane][0] for lane in gate[1:1 + takes]])
                gates = set().union({at}, *[behind[lane][1] for lane in gate[1:1 + takes]])
                for lane in gate[1 + takes:1 + takes + gives]:
                    behind[lane] = (inlets, gates)
            self.assertEqual(web.lanes(), list(behind))
            for lane in behind:
                self.assertEqual(web.sources(lane), sorted(behind[lane][0]))
                self.assertEqual(web.needed(lane), sorted(behind[lane][1]))

    def test_no_lane_of_anything(self):
        for thing in anything() + ["l", "lane", "abc", ["a"], ("a",), {"a": "b"}]:
            if isinstance(thing, str) and thing == "a":
                continue
            for ask in [self.web.sources, self.web.needed]:
                with self.assertRaises(NoLane) as caught:
                    ask(thing)
                self.assertTrue(equal_kinds(caught.exception.lane, thing))

    def test_what_is_told_is_the_askers_own(self):
        for ask in [self.web.inlets, self.web.gates, self.web.lanes, self.web.outlets,
                    lambda: self.web.sources("j"), lambda: self.web.needed("j")]:
            before = list(ask())
            told = ask()
            told.append("more")
            told[0] = None
            told.reverse()
            self.assertTrue(equal_kinds(ask(), before))
        self.assertTrue(self.web == Web([("a", "x"), ("b", "x-"), ("c", "x--")], ALL_KINDS))

    def test_what_was_handed_in_may_change(self):
        inlets, gates = [("a", "x"), ("b", "x")], [("wait", "a", "c", 1), ("wait", "b", "d", 1)]
        web = Web(inlets, gates)
        inlets.append(("z", "x"))
        inlets[0] = None
        gates.clear()
        self.assertEqual(web.inlets(), [("a", "x"), ("b", "x")])
        self.assertEqual(web.gates(), [("wait", "a", "c", 1), ("wait", "b", "d", 1)])
        self.assertEqual(len(web), 2)

    def test_nothing_handed_in_is_changed(self):
        inlets, gates = [("a", "x"), ("b", "x")], [("wait", "a", "c", 1), 7]
        self.assertEqual(refused(inlets, gates), ("gates", 1))
        self.assertTrue(equal_kinds([inlets, gates], [[("a", "x"), ("b", "x")], [("wait", "a", "c", 1), 7]]))


class Equal(unittest.TestCase):
    def test_unlike_webs(self):
        webs = [
            Web(ONE_IN), Web([("a", "x-")]), Web([("a", "x-x-")]), Web([("b", "x")]), Web(TWO_IN), Web(TWO_IN[::-1]),
            Web(TWO_IN, [("wait", "a", "c", 1)]), Web(TWO_IN, [("lag", "a", "c", 1)]),
            Web(TWO_IN, [("hold", "a", "c", 1, 0)]), Web(TWO_IN, [("hold", "a", "c", 1, 1)]),
            Web(TWO_IN, [("wait", "a", "c", 2)]), Web(TWO_IN, [("wait", "a", "d", 1)]),
            Web(TWO_IN, [("wait", "b", "c", 1)]),
            Web(TWO_IN, [("wait", "a", "c", 1), ("wait", "b", "d", 1)]),
            Web(TWO_IN, [("wait", "b", "d", 1), ("wait", "a", "c", 1)]),
        ]
        for at, one in enumerate(webs):
            for place, other in enumerate(webs):
                self.assertIs(one == other, at == place)
                self.assertIs(one != other, at != place)

    def test_equal_to_nothing_else(self):
        for thing in anything() + [[("a", "x")], (("a", "x"),), Course(LINE)]:
            self.assertIs(TWO == thing, isinstance(thing, Web) and thing is TWO, thing)
            self.assertIs(thing == TWO, thing is TWO)
            self.assertIs(TWO != thing, thing is not TWO)

    def test_equal_made_anew(self):
        luck, again = luck_of(5), luck_of(5)
        for _ in range(50):
            self.assertTrue(made_web(luck) == made_web(again))


class NoWebs(unittest.TestCase):
    def test_no_inlets_of_so_many(self):
        for thing in anything() + ["abc", {"a": "x"}, [], (), [("a", "x")] * 4,
                                   [("a", "x"), ("b", "x"), ("c", "x"), ("d", "x")], [None] * 4]:
            if isinstance(thing, (list, tuple)) and 1 <= len(thing) <= 3:
                continue
            self.assertEqual(refused(thing), ("inlets", -1), thing)
            self.assertEqual(refused(thing, None), ("inlets", -1), thing)

    def test_each_inlet_of_anything(self):
        for thing in anything() + [("a",), ("a", "x", "x"), ("A", "x"), ("", "x"), ("abcdefghi", "x"), ("a", ""),
                                   ("a", "--"), ("a", "x------"), ("a", "xxxxxxx"), ("a", None), (None, "x"),
                                   (True, "x"), ("a", 1), ("a", ["x"]), (["a"], "x"), ("a", ("x",)), {"a": "x"},
                                   ["a", "x"], "ax", ("x", "a"), ({}, "x"), ("a", {}), (("a", "x"),), (LINE, "x")]:
            if isinstance(thing, tuple) and thing == ("a", "x"):
                continue
            self.assertEqual(refused([thing]), ("inlets", 0), thing)
            self.assertEqual(refused((thing,), 5), ("inlets", 0), thing)
            self.assertEqual(refused([("p", "x"), thing, None]), ("inlets", 1), thing)
            self.assertEqual(refused([("p", "x"), ("q", "-x"), thing]), ("inlets", 2), thing)

    def test_a_lane_given_twice_by_inlets(self):
        self.assertEqual(refused([("a", "x"), ("a", "x")]), ("inlets", 1))
        self.assertEqual(refused([("a", "x"), ("b", "x"), ("a", "-x")]), ("inlets", 2))
        self.assertEqual(refused([("a", "x"), ("a", "-x"), ("", "x")], 1), ("inlets", 1))

    def test_edges_of_names_and_rhythms(self):
        for lane in ["a", "abcdefgh"]:
            for rhythm in ["x", "-----x", "xxxxxx"]:
                self.assertIsNone(refused([(lane, rhythm)]))
        self.assertEqual(refused([("abcdefghi", "x")]), ("inlets", 0))
        self.assertEqual(refused([("a", "------x")]), ("inlets", 0))

    def test_no_gates_of_so_many(self):
        for thing in anything() + ["ab", {}, {"a": 1}, gates_of(11), [None] * 11, set()]:
            if isinstance(thing, (list, tuple)) and len(thing) <= 10:
                continue
            self.assertEqual(refused(ONE_IN, thing), ("gates", -1), thing)
        self.assertIsNone(refused(ONE_IN, gates_of(10)))

    def test_each_gate_of_anything(self):
        for thing in anything() + [("hold",), ("hold", "a"), ("spin", "a", "b", 1), ["wait", "a", "c", 1],
                                   (None, "a", "c", 1), (["wait"], "a", "c", 1), ({}, "a", "c", 1), ("",),
                                   "wait", {"wait": 1}, (("wait", "a", "c", 1),), (TWO,)]:
            if isinstance(thing, tuple) and thing == ("hold", "a", "b", 1, 0):
                continue
            self.assertEqual(refused(ONE_IN, [thing]), ("gates", 0), thing)
            self.assertEqual(refused(ONE_IN, (thing, None)), ("gates", 0), thing)
            self.assertEqual(refused(ONE_IN, [("wait", "a", "p", 1), thing]), ("gates", 1), thing)
            self.assertEqual(refused(ONE_IN, gates_of(9) + [thing]), ("gates", 9), thing)

    def test_each_part_of_each_gate(self):
        good = [("hold", "a", "c", 2, 1), ("wait", "a", "c", 2), ("lag", "a", "c", 2), ("deal", "a", "c", "d", "lr"),
                ("join", "a", "b", "c", 2), ("cross", "a", "b", "c", "d")]
        for gate in good:
            self.assertIsNone(refused(TWO_IN, [gate]))
            self.assertEqual(refused(TWO_IN, [gate + (0,)]), ("gates", 0))
            self.assertEqual(refused(TWO_IN, [gate + ("e",)]), ("gates", 0))
            self.assertEqual(refused(TWO_IN, [gate + (None,)]), ("gates", 0))
            self.assertEqual(refused(TWO_IN, [gate[:-1]]), ("gates", 0))
            self.assertEqual(refused(TWO_IN, [list(gate)]), ("gates", 0))
            for at in range(len(gate)):
                self.assertEqual(refused(TWO_IN, [gate[:at] + gate[at + 1:]]), ("gates", 0))
                for thing in [None, True, False, 2.5, -1, 13, 10 ** 60, "", "A", "abcdefghi", "zz zz", (), [], {},
                              ("a",), ["a"], [2], (2,), {"a": 2}, deep(10, 2), LINE, b"a"]:
                    self.assertEqual(refused(TWO_IN, [gate[:at] + (thing,) + gate[at + 1:]]), ("gates", 0), (gate, at, thing))

    def test_words_of_other_counts(self):
        for word in ["hold", "wait", "lag", "deal", "join", "cross"]:
            for rest, fitting in [(("a", "c", 2, 1), "hold"), (("a", "c", 2), "wait lag"), (("a", "c", "d", "lr"), "deal"),
                                  (("a", "b", "c", 2), "join"), (("a", "b", "c", "d"), "cross")]:
                due = None if word in fitting.split() else ("gates", 0)
                self.assertEqual(refused(TWO_IN, [(word, *rest)]), due, (word, rest))

    def test_own_lanes_all_unlike(self):
        for gate in [("hold", "a", "a", 1, 0), ("wait", "a", "a", 1), ("lag", "a", "a", 1), ("deal", "a", "a", "d", "l"),
                     ("deal", "a", "c", "a", "l"), ("deal", "a", "c", "c", "l"), ("join", "a", "a", "c", 1),
                     ("join", "a", "b", "a", 1), ("join", "a", "b", "b", 1), ("cross", "a", "a", "c", "d"),
                     ("cross", "a", "b", "c", "c"), ("cross", "a", "b", "a", "d"), ("cross", "a", "b", "c", "b")]:
            self.assertEqual(refused(TWO_IN, [gate]), ("gates", 0), gate)

    def test_c_and_r_by_their_bounds(self):
        for c in range(13):
            self.assertIsNone(refused(ONE_IN, [("hold", "a", "b", c, 0)]))
            self.assertIsNone(refused(ONE_IN, [("hold", "a", "b", c, c)]))
            self.assertIsNone(refused(ONE_IN, [("wait", "a", "b", c)]))
            self.assertIsNone(refused(TWO_IN, [("join", "a", "b", "c", c)]))
            self.assertEqual(refused(ONE_IN, [("lag", "a", "b", c)]), ("gates", 0) if c == 0 else None)
            self.assertEqual(refused(ONE_IN, [("hold", "a", "b", c, c + 1)]), ("gates", 0))
            self.assertEqual(refused(ONE_IN, [("hold", "a", "b", c, -1)]), ("gates", 0))
        for c in [13, -1, 100]:
            for gate in [("hold", "a", "c", c, 0), ("wait", "a", "c", c), ("lag", "a", "c", c), ("join", "a", "b", "c", c)]:
                self.assertEqual(refused(TWO_IN, [gate]), ("gates", 0))

    def test_texts_of_deals(self):
        for text in ["l", "r", "ll", "lrlrlr", "rrrrrr"]:
            self.assertIsNone(refused(ONE_IN, [("deal", "a", "b", "c", text)]))
        for text in ["", "lrlrlrl", "x", "L", "l r", "lr\n", ("l",), ["l"]]:
            self.assertEqual(refused(ONE_IN, [("deal", "a", "b", "c", text)]), ("gates", 0), text)

    def test_signs_of_deals(self):
        for code in range(32, 128):
            due = None if chr(code) in "lr" else ("gates", 0)
            self.assertEqual(refused(ONE_IN, [("deal", "a", "b", "c", chr(code))]), due, code)
            self.assertEqual(refused(ONE_IN, [("deal", "a", "b", "c", "l" + chr(code))]), due, code)

    def test_names_of_gates_lanes(self):
        self.assertIsNone(refused([("abcdefgh", "x")], [("wait", "abcdefgh", "hgfedcba", 1)]))
        self.assertEqual(refused([("a", "x")], [("wait", "a", "abcdefghi", 1)]), ("gates", 0))

    def test_lanes_that_are_not_there(self):
        self.assertEqual(refused(ONE_IN, [("wait", "b", "c", 1)]), ("gates", 0))
        self.assertEqual(refused(ONE_IN, [("join", "a", "b", "c", 1)]), ("gates", 0))
        self.assertEqual(refused(ONE_IN, [("join", "b", "a", "c", 1)]), ("gates", 0))
        self.assertEqual(refused(TWO_IN, [("cross", "a", "c", "d", "e")]), ("gates", 0))

    def test_a_lane_taken_ahead_of_its_gate(self):
        self.assertEqual(refused(ONE_IN, [("wait", "b", "c", 1), ("wait", "a", "b", 1)]), ("gates", 0))
        self.assertIsNone(refused(ONE_IN, [("wait", "a", "b", 1), ("wait", "b", "c", 1)]))

    def test_a_lane_taken_twice(self):
        self.assertEqual(refused(ONE_IN, [("wait", "a", "b", 1), ("wait", "a", "c", 1)]), ("gates", 1))
        self.assertEqual(refused(TWO_IN, [("wait", "a", "c", 1), ("join", "b", "a", "d", 1)]), ("gates", 1))
        self.assertEqual(refused(TWO_IN, [("cross", "a", "b", "c", "d"), ("lag", "c", "e", 1), ("deal", "b", "f", "g", "l")]),
                         ("gates", 2))
        self.assertEqual(refused(TWO_IN, [("join", "a", "b", "c", 1), ("lag", "b", "e", 1)]), ("gates", 1))

    def test_a_lane_given_twice(self):
        self.assertEqual(refused(TWO_IN, [("wait", "a", "b", 1)]), ("gates", 0))
        self.assertEqual(refused(TWO_IN, [("wait", "a", "c", 1), ("wait", "b", "c", 1)]), ("gates", 1))
        self.assertEqual(refused(ONE_IN, [("wait", "a", "b", 1), ("wait", "b", "a", 1)]), ("gates", 1))
        self.assertEqual(refused(TWO_IN, [("deal", "a", "c", "d", "l"), ("deal", "b", "e", "d", "l")]), ("gates", 1))
        self.assertEqual(refused(TWO_IN, [("deal", "a", "c", "d", "l"), ("deal", "b", "c", "e", "l")]), ("gates", 1))

    def test_all_c_together(self):
        gates = [("hold", "a", "c", 5, 0), ("wait", "b", "d", 4), ("lag", "c", "e", 2), ("join", "d", "e", "f", 1)]
        self.assertIsNone(refused(TWO_IN, gates))
        for at, gate in enumerate(gates):
            more = gate[:-2] + (gate[-2] + 1, 0) if gate[0] == "hold" else gate[:-1] + (gate[-1] + 1,)
            self.assertEqual(refused(TWO_IN, gates[:at] + [more] + gates[at + 1:]), ("gates", 3), gate)
        self.assertEqual(refused(TWO_IN, [("wait", "a", "c", 12), ("wait", "b", "d", 1), ("wait", "c", "e", 1)]),
                         ("gates", 1))
        self.assertIsNone(refused(TWO_IN, [("wait", "a", "c", 12), ("wait", "b", "d", 0), ("deal", "c", "e", "f", "l")]))
        self.assertIsNone(refused(TWO_IN, [("hold", "a", "c", 6, 6), ("hold", "b", "d", 6, 6)]))
        self.assertEqual(refused(TWO_IN, [("wait", "a", "c", 12), ("wait", "b", "d", 1), None]), ("gates", 1))
        self.assertEqual(refused(TWO_IN, [("wait", "a", "c", 12), None, ("wait", "b", "d", 1)]), ("gates", 1))

    def test_deals_and_crosses_have_no_c(self):
        gates = [("deal", "a", "c", "d", "lr"), ("cross", "c", "b", "e", "f"), ("wait", "d", "g", 12)]
        self.assertIsNone(refused(TWO_IN, gates))
        self.assertIsNone(refused(TWO_IN, gates + [("wait", "e", "h", 0)]))
        for c in [1, 2]:
            self.assertEqual(refused(TWO_IN, gates + [("wait", "e", "h", c)]), ("gates", 3))

    def test_inlets_ahead_of_gates_and_the_first_of_each(self):
        self.assertEqual(refused([("a", "x"), None, None], [None]), ("inlets", 1))
        self.assertEqual(refused([("a", "x"), None], "no"), ("inlets", 1))
        self.assertEqual(refused(ONE_IN, [("wait", "a", "b", 1), 1, None]), ("gates", 1))
        self.assertEqual(refused(ONE_IN, [None] * 11), ("gates", -1))

    def test_fields(self):
        with self.assertRaises(NoWeb) as caught:
            Web(gates=[None], inlets=ONE_IN)
        self.assertTrue(equal_kinds([caught.exception.field, caught.exception.at], ["gates", 0]))
        self.assertIsInstance(caught.exception, ValueError)
