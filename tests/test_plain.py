import unittest

from holdgates.courses import Course
from holdgates.errors import Jams
from holdgates.plain import is_plain, plain
from holdgates.runs import run
from holdgates.webs import Web
from tests.helper import LINE, equal_kinds, luck_of, made_feed, made_web, unchanged

ONE_IN = [("a", "x")]


def told(inlets, gates=()):
    web = plain(Web(inlets, gates))
    return web.inlets(), web.gates()


def least(text):
    """The least text of which a text is made, tried out letter by letter."""
    for many in range(1, len(text) + 1):
        if len(text) % many == 0 and all(text[at] == text[at % many] for at in range(len(text))):
            return text[:many]


def by_rows(web):
    """The plain form, rule by rule as the document has it, on rows that are changed in place."""
    inlets = [[lane, least(rhythm)] for lane, rhythm in web.inlets()]
    gates = [list(gate) for gate in web.gates()]
    for gate in gates:
        if gate[0] == "deal":
            gate[4] = least(gate[4])
    changed = True
    while changed:
        changed = False
        for gate in gates:
            if gate[0] in ("hold", "wait") and gate[3] == 0:
                gates.remove(gate)
                for row in inlets:
                    if row[0] == gate[1]:
                        row[0] = gate[2]
                for row in gates:
                    for at in range(1, 5):
                        name = at < len(row) and not (row[0] == "deal" and at == 4)
                        if name and row[at] == gate[1]:
                            row[at] = gate[2]
                changed = True
                break
            like = [row for row in gates if row[0] == gate[0] and row[1] == gate[2]]
            if gate[0] not in ("hold", "wait", "lag") or not like:
                continue
            other = like[0]
            if gate[0] == "hold" and not (gate[4] == other[4] == 0 or (gate[4] == gate[3] and other[4] == other[3])):
                continue
            if gate[0] == "hold" and gate[4] > 0:
                gate[4] = gate[3] + other[3]
            gate[2], gate[3] = other[2], gate[3] + other[3]
            gates.remove(other)
            changed = True
            break
    return [tuple(row) for row in inlets], [tuple(row) for row in gates]


class Plain(unittest.TestCase):
    def test_least_texts(self):
        for text, short in [("x", "x"), ("xx", "x"), ("xxx", "x"), ("x-x-", "x-"), ("x-x-x-", "x-"), ("-x-x", "-x"),
                            ("xx-xx-", "xx-"), ("xx-xx", "xx-xx"), ("x-x", "x-x"), ("x--x", "x--x"), ("xxxxxx", "x"),
                            ("x-xx-x", "x-x"), ("x-xxx-", "x-xxx-"), ("xx--", "xx--")]:
            self.assertTrue(equal_kinds(told([("a", text)]), ([("a", short)], [])))
            deal = text.replace("x", "l").replace("-", "r")
            self.assertEqual(told(ONE_IN, [("deal", "a", "b", "c", deal)])[1],
                             [("deal", "a", "b", "c", short.replace("x", "l").replace("-", "r"))])

    def test_c_0_is_left_out(self):
        for gate in [("hold", "a", "b", 0, 0), ("wait", "a", "b", 0)]:
            self.assertEqual(told(ONE_IN, [gate]), ([("b", "x")], []))
            self.assertEqual(told(ONE_IN, [gate, ("lag", "b", "c", 1)]), ([("b", "x")], [("lag", "b", "c", 1)]))
        self.assertEqual(told([("a", "x"), ("b", "x")], [
            ("cross", "a", "b", "c", "d"), ("wait", "d", "e", 0), ("hold", "c", "f", 0, 0), ("join", "e", "f", "g", 1)]), (
            [("a", "x"), ("b", "x")], [("cross", "a", "b", "f", "e"), ("join", "e", "f", "g", 1)]))
        self.assertEqual(told([("a", "x")], [("deal", "a", "b", "c", "lr"), ("wait", "b", "d", 0), ("wait", "c", "e", 0)]),
                         ([("a", "x")], [("deal", "a", "d", "e", "lr")]))

    def test_one_behind_the_other_left_out(self):
        gates = [("wait", "a", "b", 0), ("hold", "b", "c", 0, 0), ("wait", "c", "d", 0)]
        self.assertEqual(told(ONE_IN, gates), ([("d", "x")], []))

    def test_joins_of_c_0_and_lags_stay(self):
        web = Web([("a", "x-"), ("b", "-x")], [("join", "a", "b", "c", 0), ("lag", "c", "d", 1)])
        self.assertTrue(plain(web) == web)

    def test_lanes_called_as_words_and_texts_are(self):
        self.assertEqual(told([("lr", "x")], [("wait", "lr", "x", 0), ("deal", "x", "wait", "deal", "lr")]),
                         ([("x", "x")], [("deal", "x", "wait", "deal", "lr")]))
        self.assertEqual(told([("deal", "x"), ("hold", "x")], [
            ("wait", "deal", "l", 0), ("deal", "l", "b", "c", "l"), ("hold", "hold", "r", 0, 0), ("deal", "r", "d", "e", "r")]),
            ([("l", "x"), ("r", "x")], [("deal", "l", "b", "c", "l"), ("deal", "r", "d", "e", "r")]))

    def test_like_gates_are_one(self):
        self.assertEqual(told(ONE_IN, [("wait", "a", "b", 2), ("wait", "b", "c", 3)])[1], [("wait", "a", "c", 5)])
        self.assertEqual(told(ONE_IN, [("lag", "a", "b", 2), ("lag", "b", "c", 3)])[1], [("lag", "a", "c", 5)])
        self.assertEqual(told(ONE_IN, [("hold", "a", "b", 2, 0), ("hold", "b", "c", 3, 0)])[1], [("hold", "a", "c", 5, 0)])
        self.assertEqual(told(ONE_IN, [("hold", "a", "b", 2, 2), ("hold", "b", "c", 3, 3)])[1], [("hold", "a", "c", 5, 5)])
        self.assertEqual(told(ONE_IN, [("lag", "a", "b", 1), ("lag", "b", "c", 1), ("lag", "c", "d", 10)])[1],
                         [("lag", "a", "d", 12)])

    def test_unlike_gates_stay(self):
        for gates in [[("wait", "a", "b", 2), ("lag", "b", "c", 3)], [("hold", "a", "b", 2, 0), ("wait", "b", "c", 3)],
                      [("hold", "a", "b", 2, 0), ("hold", "b", "c", 3, 3)], [("hold", "a", "b", 2, 2), ("hold", "b", "c", 3, 0)],
                      [("hold", "a", "b", 2, 1), ("hold", "b", "c", 2, 1)], [("hold", "a", "b", 2, 1), ("hold", "b", "c", 3, 0)],
                      [("hold", "a", "b", 3, 0), ("hold", "b", "c", 3, 1)], [("hold", "a", "b", 3, 3), ("hold", "b", "c", 3, 2)],
                      [("deal", "a", "b", "c", "lr"), ("deal", "b", "d", "e", "lr")]]:
            self.assertEqual(told(ONE_IN, gates)[1], gates)
            self.assertIs(is_plain(Web(ONE_IN, gates)), True)

    def test_one_with_a_gate_of_c_0(self):
        self.assertEqual(told(ONE_IN, [("hold", "a", "b", 2, 0), ("hold", "b", "c", 0, 0)])[1], [("hold", "a", "c", 2, 0)])
        self.assertEqual(told(ONE_IN, [("hold", "a", "b", 2, 2), ("hold", "b", "c", 0, 0)])[1], [("hold", "a", "c", 2, 2)])
        self.assertEqual(told(ONE_IN, [("hold", "a", "b", 2, 1), ("hold", "b", "c", 0, 0)])[1], [("hold", "a", "c", 2, 1)])
        self.assertEqual(told(ONE_IN, [("hold", "a", "b", 0, 0), ("hold", "b", "c", 2, 2)]),
                         ([("b", "x")], [("hold", "b", "c", 2, 2)]))
        self.assertEqual(told(ONE_IN, [("hold", "a", "b", 0, 0), ("hold", "b", "c", 2, 0)]),
                         ([("b", "x")], [("hold", "b", "c", 2, 0)]))
        self.assertEqual(told(ONE_IN, [("wait", "a", "b", 0), ("wait", "b", "c", 2)]), ([("b", "x")], [("wait", "b", "c", 2)]))

    def test_it_stands_in_the_place_of_the_first(self):
        inlets = [("a", "x"), ("b", "x")]
        gates = [("wait", "a", "c", 1), ("lag", "b", "d", 1), ("wait", "c", "e", 1), ("cross", "d", "e", "f", "g")]
        self.assertEqual(told(inlets, gates), (inlets, [
            ("wait", "a", "e", 2), ("lag", "b", "d", 1), ("cross", "d", "e", "f", "g")]))

    def test_what_is_left_out_makes_others_meet(self):
        gates = [("lag", "a", "b", 1), ("wait", "b", "c", 0), ("lag", "c", "d", 2), ("hold", "d", "e", 0, 0), ("lag", "e", "f", 3)]
        self.assertEqual(told(ONE_IN, gates)[1], [("lag", "a", "f", 6)])

    def test_is_plain(self):
        self.assertIs(is_plain(web=LINE), True)
        self.assertIs(is_plain(Web([("a", "xx")])), False)
        self.assertIs(is_plain(Web(ONE_IN, [("deal", "a", "b", "c", "ll")])), False)
        self.assertIs(is_plain(Web(ONE_IN, [("wait", "a", "b", 0)])), False)
        self.assertIs(is_plain(Web(ONE_IN, [("wait", "a", "b", 1)])), True)
        self.assertIs(is_plain(Web(ONE_IN, [("wait", "a", "b", 1), ("wait", "b", "c", 1)])), False)

    def test_rule_by_rule(self):
        luck, many = luck_of(41), 0
        for turn in range(1500):
            words = ("hold", "wait", "lag", "deal", "join", "cross") if turn % 2 else ("hold", "wait", "lag")
            web = made_web(luck, words=words, inlets=luck.choice([1, 1, 2, 3]))
            made = unchanged(plain, web)
            self.assertIsInstance(made, Web)
            self.assertTrue(equal_kinds((made.inlets(), made.gates()), by_rows(web)))
            self.assertIs(is_plain(made), True)
            self.assertTrue(plain(made) == made)
            self.assertIs(is_plain(web), made == web)
            many += made != web
        self.assertTrue(300 < many < 1490)

    def test_the_web_itself_stays(self):
        web = Web([("a", "xx")], [("wait", "a", "b", 0)])
        plain(web=web)
        self.assertEqual((web.inlets(), web.gates()), ([("a", "xx")], [("wait", "a", "b", 0)]))


class Shows(unittest.TestCase):
    def test_the_same_at_all_lanes_that_both_have(self):
        luck, jammed = luck_of(42), 0
        for turn in range(600):
            words = ("hold", "wait", "lag", "deal", "join", "cross") if turn % 2 else ("hold", "wait", "lag")
            web = made_web(luck, words=words)
            made = plain(web)
            feed = made_feed(luck, web, 30)
            lanes = [lane for lane in made.lanes() if lane in web.lanes()]
            self.assertEqual(sorted(made.outlets()), sorted(web.outlets()))
            try:
                rows = run(Course(web), feed, 30)
            except Jams as due:
                jammed += 1
                with self.assertRaises(Jams) as caught:
                    run(Course(made), feed, 30)
                self.assertEqual(caught.exception.beat, due.beat)
                continue
            shown = run(Course(made), feed, 30)
            for lane in lanes:
                place, spot = web.lanes().index(lane), made.lanes().index(lane)
                self.assertEqual([row[place] for row in rows], [row[spot] for row in shown])
        self.assertTrue(jammed > 20)
