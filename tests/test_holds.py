import unittest

from holdgates.bounds import STANDS
from holdgates.errors import Jams, NoKind, NoLane, NoWeb, TooLong, TooMany
from holdgates.feeds import cut
from holdgates.holds import held, least_hold, shows_hold
from holdgates.likes import is_of
from holdgates.rises import rises
from holdgates.webs import Web
from tests.helper import (JUST_2001, LINE, SMALL_2000, Bits, anything, bits_at, equal_kinds, is_bit, is_lot, is_shown,
                          jam_at, luck_of, made_feed_of, made_kinds, made_web, refusal, round_of_600, run_by_hand,
                          some_spoilt, unchanged)

HOLD = Web([("a", "x")], [("hold", "a", "b", 3, 1)])
JAMS = Web([("a", "x"), ("b", "x")], [("join", "a", "b", "c", 1)])


def graph_by_hand(web, kinds, most=300):
    """(node: its moves, (choice, what is carried, node)), by hand; None where there are more than most."""
    first = Bits([web], kinds)
    found, line = {}, [first]
    known = {first.stand()}
    for bits in line:
        if len(known) > most:
            return None
        moves = [(choice, other.seen[-1][0], other) for choice, other in bits.nexts()]
        found[bits.stand()] = [(choice, row, other.stand()) for choice, row, other in moves]
        for _, _, other in moves:
            if other.stand() not in known:
                known.add(other.stand())
                line.append(other)
    return found


def most_ones(graph, place):
    """The most ones ahead of a nought, one by one: all that can be come to behind so many; "never" of any number."""
    level, most = {list(graph)[0]}, 0
    for ones in range(len(graph) + 2):
        line = list(level)
        for node in line:
            for _, row, behind in graph[node]:
                if row[place] != 1 and behind not in level:
                    level.add(behind)
                    line.append(behind)
        if any(row[place] == 0 for node in level for _, row, _ in graph[node]):
            most = ones
        level = {behind for node in level for _, row, behind in graph[node] if row[place] == 1}
        if not level:
            return most
    return most if most < len(graph) else "never"


def lot_by_hand(graph, place, most):
    """All (node, ones) that can be come to, ones most + 1 at most."""
    first = (*list(graph)[0], 0)
    found, line = {first}, [first]
    for *node, ones in line:
        for _, row, behind in graph[tuple(node)]:
            fresh = (*behind, min(ones + (row[place] == 1), most + 1))
            if fresh not in found:
                found.add(fresh)
                line.append(fresh)
    return found


def shown(web, lane, thing, kinds):
    """Whether a look shows a thing, by the document's words."""
    place = web.lanes().index(lane)
    if type(thing) is not tuple or not thing:
        return False
    if len(thing) == 4 and thing[0] == "never":
        return never_shown(web, place, thing[1:], kinds)
    if len(thing) != 5 or thing[0] != "hold":
        return False
    _, most, beat, feed, lot = thing
    if type(most) is not int or most < 0:
        return False

    def is_ones(more):
        return len(more) == 1 and type(more[0]) is int and 0 <= more[0] <= most + 1

    def step(bits, more):
        token = bits.seen[-1][0][place]
        if token == 0 and more[0] == most + 1:
            return None
        return (min(more[0] + 1, most + 1) if token == 1 else more[0],)
    if not is_lot([web], kinds, lot, is_ones, (0,), step):
        return False
    if most == 0:
        return beat is None and feed is None
    if not is_shown(web, kinds, beat, feed):
        return False
    row = [row[place] for row in run_by_hand(web, feed, beat)]
    return row[-1] is not None and sum(token is not None and token > row[-1] for token in row) >= most


def never_shown(web, place, parts, kinds):
    if any(type(part) is not tuple or len(part) > 2001 for part in parts):
        return False
    bits, nodes, rows = Bits([web], kinds), [], []
    for part in parts:
        for choice in part:
            if type(choice) is not tuple or len(choice) != len(bits.due()) or not all(map(is_bit, choice)):
                return False
            bits = bits.on(choice)
            if bits is None:
                return False
        nodes.append(bits.stand())
        rows.append([row[0][place] for row in bits.seen])
        bits.seen = []
        if len(nodes) == 2:
            bits = bits_at([web], kinds, nodes[0])
    return nodes[0] == nodes[1] and 1 in rows[1] and bool(rows[2]) and rows[2][-1] == 0


class Least(unittest.TestCase):
    def check(self, web, lane, kinds, most=300):
        """Checks an answer against all that can be come to by hand, and tells its c, or "never"; None of too much."""
        place = web.lanes().index(lane)
        graph = graph_by_hand(web, kinds, most)
        if graph is None:
            return None
        told = unchanged(lambda *all_told: least_hold(*all_told, kinds=kinds), web, lane)
        self.assertIs(shows_hold(web, lane, told, kinds=kinds), True)
        self.assertIs(shown(web, lane, told, kinds), True)
        due = most_ones(graph, place)
        if due == "never":
            self.assertEqual((told[0], len(told)), ("never", 4))
            return due
        word, c, beat, feed, lot = told
        self.assertTrue(equal_kinds((word, c), ("hold", due)))
        self.assertEqual(len(lot), len(set(lot)))
        self.assertEqual(set(lot), lot_by_hand(graph, place, c))
        self.assertTrue(all(equal_kinds(part, (part[0], part[1], part[2], int(part[3]))) for part in lot))
        if c == 0:
            self.assertTrue(beat is None and feed is None)
        else:
            self.check_feed(web, place, c, beat, feed, kinds)
        return c

    def check_feed(self, web, place, c, beat, feed, kinds):
        self.assertTrue(all(is_bit(bit) for row in feed for bit in row))
        self.assertEqual(cut(web, feed, beat), feed)
        self.assertIs(is_of(web, kinds, feed), True)
        row = [row[place] for row in run_by_hand(web, feed, beat)]
        self.assertEqual((row[-1], row.count(1)), (0, c))

    def test_a_line(self):
        self.assertTrue(equal_kinds(least_hold(LINE, "a", kinds=(0,))[:4], ("hold", 0, None, None)))
        for kind in range(1, 9):
            told = least_hold(web=LINE, lane="a", kinds=[kind])
            self.assertTrue(equal_kinds(told[:4], ("hold", kind, kind + 1, ((1,) * kind + (0,),))))
            self.assertEqual(self.check(LINE, "a", (kind,)), kind)
        self.assertEqual(least_hold(LINE, "a")[0], "never")
        self.assertEqual(self.check(LINE, "a", None), "never")

    def test_behind_holds(self):
        for most in range(5):
            for rank in range(most + 1):
                web = Web([("a", "x")], [("hold", "a", "b", most, rank)])
                for kind in [0, 1, 3, 8]:
                    c = self.check(web, "b", (kind,))
                    if rank == 0:
                        self.assertEqual(c, max(kind - most, 0))

    def test_never_a_nought_behind_a_one(self):
        web = Web([("a", "x")], [("deal", "a", "b", "c", "l")])
        self.assertTrue(equal_kinds(least_hold(web, "c"), ("hold", 0, None, None, [(0, ((0,),), (None,), 0)])))
        self.assertEqual(self.check(web, "b", (0,)), 0)
        # A one, and noughts alone ahead of it.
        least = Web([("a", "x")], [("hold", "a", "b", 2, 0)])
        self.assertEqual(self.check(least, "b", (2,)), 0)

    def test_more_than_12(self):
        # Of the nought that comes last for the kind ones are ahead, and others overtake it, as it lags.
        web = Web([("a", "x")], [("deal", "a", "b", "c", "lr"), ("lag", "b", "d", 12), ("join", "c", "d", "e", 0)])
        told = least_hold(web, "e", kinds=(8,))
        self.assertEqual(told[:2], ("hold", 14))
        self.assertEqual(self.check(web, "e", (8,), 2000), 14)
        # Of (rest, kept, marks) there are fewer than STANDS, with ones there are more.
        web = Web([("a", "x"), ("b", "x-")], [
            ("deal", "a", "e", "c", "lr"), ("lag", "e", "d", 12), ("join", "c", "d", "f", 0)])
        told = least_hold(web, "f", kinds=(8, 0))
        self.assertEqual((told[1], len({node[:3] for node in told[4]}), len(told[4])), (14, 797, 3295))
        self.assertIs(shows_hold(web, "f", told, kinds=(8, 0)), True)

    def test_noughts_that_come_ever_again(self):
        slow = Web([("a", "-x"), ("b", "x-")], [("join", "a", "b", "c", 0)])
        for kinds in [(0, 0), (8, 0), (0, 8), (None, 0)]:
            self.assertEqual(self.check(slow, "c", kinds), "never")

    def test_ones_of_one_inlet_and_noughts_of_another(self):
        two = Web([("a", "x-"), ("b", "-x")], [("join", "a", "b", "c", 0)])
        self.assertEqual(self.check(two, "c", (0, 0)), "never")
        word, ahead, again, behind = least_hold(two, "c", kinds=(0, 0))
        self.assertIn((1,), again)

    def test_at_an_inlet_the_others_are_of_no_matter(self):
        two = Web([("a", "x"), ("b", "x")])
        for kinds, due in [((3, None), 3), ((3, 0), 3), ((0, 8), 0), ((None, 0), "never")]:
            self.assertEqual(self.check(two, "a", kinds), due)

    def test_by_hand(self):
        luck, many = luck_of(141), {}
        for _ in range(300):
            web = made_web(luck, luck.randint(0, 4), most=luck.choice([2, 4, 6]))
            lane = luck.choice(web.lanes())
            kinds = luck.choice([None, made_kinds(luck, web), tuple(luck.randint(0, 2) for _ in web.inlets())])
            if refusal(least_hold, web, lane, kinds=kinds):
                continue
            c = self.check(web, lane, kinds, 120)
            many[c] = many.get(c, 0) + 1
        self.assertTrue(many["never"] > 20 and len(many) > 5 and many[0] > 20, many)

    def test_with_it_the_lane_rises_with_one_fewer_it_does_not(self):
        luck, many = luck_of(142), {"never": 0, 0: 0, "more": 0}
        for _ in range(200):
            web = made_web(luck, luck.randint(0, 3), most=3, inlets=luck.choice([1, 1, 2]))
            lane = luck.choice(web.outlets())
            kinds = tuple(luck.choice([0, 1, 2, 3, None]) for _ in web.inlets())
            if refusal(least_hold, web, lane, kinds=kinds):
                continue
            told = least_hold(web, lane, kinds=kinds)
            kept = sum(gate[3] for gate in web.gates() if gate[0] in ("hold", "wait", "lag"))
            kept += sum(gate[4] for gate in web.gates() if gate[0] == "join")
            if told[0] == "never":
                for c in range(min(12 - kept, 4)):
                    if not refusal(rises, held(web, lane, c, "held"), "held", kinds=kinds):
                        self.assertEqual(rises(held(web, lane, c, "held"), "held", kinds=kinds)[0], "falls")
                many["never"] += 1
                continue
            c = told[1]
            for most, word in [(c, "rises"), (c - 1, "falls"), (c + 1, "rises")]:
                if 0 <= most <= 12 - kept and not refusal(rises, held(web, lane, most, "held"), "held", kinds=kinds):
                    self.assertEqual(rises(held(web, lane, most, "held"), "held", kinds=kinds)[0], word)
                    many[0 if c == 0 else "more"] += 1
        self.assertTrue(min(many.values()) > 10, many)

    def test_rises_just_where_it_is_0(self):
        luck = luck_of(143)
        for _ in range(80):
            web = made_web(luck, luck.randint(0, 3), most=4)
            lane, kinds = luck.choice(web.lanes()), made_kinds(luck, web)
            if refusal(least_hold, web, lane, kinds=kinds) or refusal(rises, web, lane, kinds=kinds):
                continue
            word, lot = rises(web, lane, kinds=kinds)[:2]
            told = least_hold(web, lane, kinds=kinds)
            self.assertEqual(word == "rises", told[:2] == ("hold", 0))
            if word == "rises":
                self.assertEqual(sorted(lot, key=repr), sorted(told[4], key=repr))

    def test_stands_and_one_more(self):
        told = least_hold(SMALL_2000, "g")
        self.assertEqual((told[:4], len(told[4]), len(set(told[4]))), (("hold", 0, None, None), 2000, 2000))
        self.assertIs(shows_hold(SMALL_2000, "g", told), True)
        self.assertEqual(least_hold(SMALL_2000, "a")[0], "never")
        for lane in JUST_2001.lanes():
            self.assertEqual(refusal(least_hold, JUST_2001, lane), (TooMany, STANDS))


class Looks(unittest.TestCase):
    def check(self, web, lane, thing, kinds, due=None):
        told = unchanged(lambda *all_told: shows_hold(*all_told, kinds=kinds), web, lane, thing)
        self.assertIs(told, shown(web, lane, thing, kinds), thing)
        if due is not None:
            self.assertIs(told, due, thing)
        return told

    def test_told_answers_and_spoilt_ones(self):
        luck = luck_of(151)
        two = Web([("a", "x-"), ("b", "-x")], [("join", "a", "b", "c", 0)])
        for web, lane, kinds in [(LINE, "a", (0,)), (LINE, "a", (2,)), (LINE, "a", None), (HOLD, "b", (2,)),
                                 (HOLD, "b", [1]), (HOLD, "b", None), (two, "c", (0, 0)), (two, "b", (0, 1))]:
            answer = least_hold(web, lane, kinds=kinds)
            self.check(web, lane, answer, kinds, True)
            right = 0
            for thing in some_spoilt(luck, answer, 500):
                right += self.check(web, lane, thing, kinds)
            self.assertTrue(right < 60, right)
            for thing in anything():
                self.check(web, lane, thing, kinds, False)

    def test_another_order(self):
        luck = luck_of(152)
        answer = least_hold(HOLD, "b", kinds=(3,))
        for _ in range(10):
            luck.shuffle(answer[4])
            self.assertIs(shows_hold(web=HOLD, lane="b", thing=answer, kinds=[3]), True)
        self.assertIs(shows_hold(HOLD, "b", answer[:4] + (tuple(answer[4]),), kinds=(3,)), False)
        self.assertIs(shows_hold(HOLD, "b", list(answer), kinds=(3,)), False)
        for kinds in [None, (2,), (4,)]:
            self.assertIs(shows_hold(HOLD, "b", answer, kinds=kinds), False)

    def test_one_more_one_fewer_one_twice(self):
        for web, lane, kinds in [(LINE, "a", (2,)), (HOLD, "b", (3,))]:
            answer = least_hold(web, lane, kinds=kinds)
            ahead, lot = answer[:4], answer[4]
            for at, node in enumerate(lot):
                self.check(web, lane, (*ahead, lot[:at] + lot[at + 1:]), kinds, False)
                self.check(web, lane, (*ahead, lot + [node]), kinds, False)
                for ones in [node[3] + 1, node[3] - 1, answer[1] + 1, answer[1] + 2, True, False, None, "0"]:
                    self.check(web, lane, (*ahead, lot[:at] + [node[:3] + (ones,)] + lot[at + 1:]), kinds)
                    self.check(web, lane, (*ahead, lot + [node[:3] + (ones,)]), kinds)

    def test_other_cs(self):
        luck = luck_of(153)
        answer = least_hold(LINE, "a", kinds=(3,))
        graph = graph_by_hand(LINE, (3,))
        for c in [0, 1, 2, 3, 4, 5, 13, 10 ** 30, -1, True, None, "3"]:
            self.check(LINE, "a", ("hold", c, *answer[2:]), (3,), c == 3 and type(c) is int)
            if type(c) is int and 0 <= c < 20:
                lot = sorted(lot_by_hand(graph, 0, c), key=repr)
                luck.shuffle(lot)
                # Of a greater c there is such a lot, yet no feed; of a lesser one none.
                self.check(LINE, "a", ("hold", c, *answer[2:4], lot), (3,), c == 3)
                self.check(LINE, "a", ("hold", c, None, None, lot), (3,), False)
        for thing in [(1, ((1,),)), (2, ((1, 0),)), (None, ((1,),)), (1, None), (0, None), ((), ())]:
            lot = least_hold(LINE, "a", kinds=(0,))[4]
            self.check(LINE, "a", ("hold", 0, None, None, lot), (0,), True)
            self.check(LINE, "a", ("hold", 0, *thing, lot), (0,), False)

    def test_other_feeds(self):
        luck, many = luck_of(154), {True: 0, False: 0}
        for web, lane, kinds in [(LINE, "a", (2,)), (HOLD, "b", (3,))]:
            _, c, _, _, lot = least_hold(web, lane, kinds=kinds)
            for _ in range(250):
                beat = luck.randint(3, 9)
                feed = made_feed_of(luck, web, luck.choice([None, kinds, kinds]), beat)
                many[self.check(web, lane, ("hold", c, beat, feed, lot), kinds)] += 1
        self.assertTrue(min(many.values()) > 20, many)

    def test_any_numbers(self):
        lot = least_hold(LINE, "a", kinds=(2,))[4]
        for beat, feed, due in [(3, ((9, 8, 7),), True), (3, ((9, 5, 7),), False), (4, ((5, 9, 8, 7),), True),
                                (4, ((9, 9, 9, 7),), False), (3, ((9, 8, 8),), False), (3, ((9, 8, 7, 6),), False),
                                (3, ((10 ** 12 + 1, 8, 7),), False), (3, ([9, 8, 7],), False), (3, [(9, 8, 7)], False),
                                (3, ((9, 8, False),), False), (2, ((9, 8),), False), (4, ((9, 8, 7),), False),
                                (True, ((9,),), False)]:
            self.check(LINE, "a", ("hold", 2, beat, feed, lot), (2,), due)

    def test_beats_to_2001(self):
        odd = Web([("a", "x-"), ("b", "x-")], [("deal", "a", "c", "d", "l")])
        lot = least_hold(odd, "c", kinds=(1, 0))[4]
        for beat, due in [(1999, True), (2000, False), (2001, True), (2003, False), (0, False)]:
            many = (beat + 1) // 2
            feed = (tuple([5] * (many - 2) + [6, 5]), tuple([7] * many))
            self.assertIs(shows_hold(odd, "c", ("hold", 1, beat, feed, lot), kinds=(1, 0)), due)

    def test_never_by_choices(self):
        for ahead, again, behind, due in [
                ((), ((1,),), ((0,),), True), ((), ((0,), (1,)), ((1,), (0,)), True), (((1,),), ((1,),), ((0,),), True),
                ((), ((0,),), ((0,),), False), ((), (), ((0,),), False), ((), ((1,),), (), False),
                ((), ((1,),), ((1,),), False), ((), ((1,),), ((0,), (1,)), False), ([], ((1,),), ((0,),), False),
                ((), [(1,)], ((0,),), False), ((), ((1,),), [(0,)], False), ((), ([1],), ((0,),), False),
                ((), ((True,),), ((0,),), False), ((), ((1,),), ((False,),), False), ((), ((2,),), ((0,),), False),
                ((), ((1, 1),), ((0,),), False), ((), ((1,),), ((),), False), ((), ((1,), ()), ((0,),), False),
                (((None,),), ((1,),), ((0,),), False), (None, ((1,),), ((0,),), False), ((1,), ((1,),), ((0,),), False),
                ((LINE,), ((1,),), ((0,),), False)]:
            self.check(LINE, "a", ("never", ahead, again, behind), None, due)
            self.check(LINE, "a", ("never", ahead, again, behind), (8,), False)
            self.check(LINE, "a", ("hold", ahead, again, behind), None, False)
            self.check(LINE, "a", ("never", ahead, again, behind, None), None, False)

    def test_never_by_the_kind_and_its_marks(self):
        # For a kind of a alone the same stand comes again by the same marks alone.
        two = Web([("a", "x"), ("b", "x")])
        ones, noughts = ((1, 1),), ((1, 0),)
        for kinds, ahead, again, behind, due in [
                ((None, None), (), ones, noughts, True), ((0, None), (), ones, noughts, False),
                ((0, None), ones, ones, noughts, True), ((1, None), ones, ones, noughts, False),
                ((1, None), ones * 2, ones, noughts, True), ((8, None), ones * 8, ones, noughts, False),
                ((8, None), ones * 9, ones, noughts, True), ((0, None), ones, ones, ((0, 0),), False),
                ((0, None), ones, ((1, 1), (0, 1)), noughts, False), ((0, 8), ones * 9, ones, noughts, False),
                ((0, None), ((0, 1),), ((0, 1),), ((0, 0),), True), ((0, None), ((1, 1), (0, 1)), ones, noughts, False)]:
            self.check(two, "b", ("never", ahead, again, behind), kinds, due)

    def test_at_most_2001_choices_each(self):
        for many, due in [(2001, True), (2002, False)]:
            for parts in [(((1,),) * many, ((1,),), ((0,),)), ((), ((1,),) * many, ((0,),)),
                          ((), ((1,),), ((1,),) * (many - 1) + ((0,),))]:
                self.assertIs(shows_hold(LINE, "a", ("never", *parts)), due)

    def test_answers_of_made_webs(self):
        luck, many = luck_of(155), {"never": 0, "hold": 0}
        for _ in range(150):
            web = made_web(luck, luck.randint(0, 3), most=4)
            lane, kinds = luck.choice(web.lanes()), luck.choice([None, made_kinds(luck, web)])
            if refusal(least_hold, web, lane, kinds=kinds):
                continue
            answer = least_hold(web, lane, kinds=kinds)
            if answer[0] == "hold" and len(answer[4]) > 60:
                continue
            many[answer[0]] += 1
            for thing in some_spoilt(luck, answer, 25):
                self.check(web, lane, thing, kinds)
        self.assertTrue(min(many.values()) > 10, many)


class Held(unittest.TestCase):
    def test_as_its_last_gate(self):
        web = held(web=HOLD, lane="b", most=4, out="c")
        self.assertIsInstance(web, Web)
        self.assertTrue(equal_kinds((web.inlets(), web.gates()), (HOLD.inlets(), HOLD.gates() + [("hold", "b", "c", 4, 0)])))
        self.assertEqual(len(HOLD), 1)
        self.assertEqual(unchanged(held, LINE, "a", 0, "b").gates(), [("hold", "a", "b", 0, 0)])

    def no_web(self, at, *told):
        with self.assertRaises(NoWeb) as caught:
            held(*told)
        self.assertIs(type(caught.exception), NoWeb)
        self.assertTrue(equal_kinds((caught.exception.field, caught.exception.at), ("gates", at)))

    def test_where_it_can_not_stand(self):
        self.assertEqual(len(held(HOLD, "b", 9, "c")), 2)
        self.no_web(1, HOLD, "b", 10, "c")
        self.no_web(1, HOLD, "b", 13, "c")
        self.no_web(1, HOLD, "b", -1, "c")
        self.no_web(1, HOLD, "a", 1, "c")
        self.no_web(1, HOLD, "z", 1, "c")
        self.no_web(1, HOLD, "b", 1, "a")
        self.no_web(1, HOLD, "b", 1, "b")
        self.no_web(0, LINE, "a", 13, "c")
        self.assertEqual(len(held(LINE, "a", 12, "c")), 1)
        lanes = "abcdefghijkl"
        ten = Web([("a", "x")], [("wait", lanes[at], lanes[at + 1], 0) for at in range(10)])
        self.no_web(-1, ten, "k", 0, "l")
        self.assertEqual(len(held(Web([("a", "x")], ten.gates()[:9]), "j", 0, "l")), 10)

    def test_of_anything(self):
        for thing in anything():
            if thing != "b":
                self.no_web(1, HOLD, thing, 1, "c")
            if type(thing) is not int or not 0 <= thing <= 9:
                self.no_web(1, HOLD, "b", thing, "c")
            if not (isinstance(thing, str) and thing.isascii() and thing.isalpha() and thing.islower()
                    and len(thing) <= 8 and thing not in ("a", "b")):
                self.no_web(1, HOLD, "b", 1, thing)


ASKS = [least_hold] + [lambda web, lane, thing=thing, **more: shows_hold(web, lane, thing, **more)
                       for thing in (None, ("hold", 0, None, None, []), ("never", (), ((1,),), ((0,),)), 7)]


class Refused(unittest.TestCase):
    def raised(self, kind, ask, *told, **more):
        with self.assertRaises(kind) as caught:
            ask(*told, **more)
        self.assertIs(type(caught.exception), kind)
        return list(vars(caught.exception).values())

    def test_no_lane_of_anything_ahead_of_all(self):
        for thing in anything() + ["zz"]:
            if isinstance(thing, str) and thing in ("a", "b", "c"):
                continue
            for web in [HOLD, JAMS]:
                for ask in ASKS:
                    self.assertTrue(equal_kinds(self.raised(NoLane, ask, web, thing), [thing]))
                    self.assertTrue(equal_kinds(self.raised(NoLane, ask, web, thing, kinds=9), [thing]))

    def test_no_kind_of_anything_ahead_of_jams(self):
        for web in [HOLD, JAMS]:
            many = len(web.inlets())
            for thing in anything():
                for kinds in [thing, (thing,) * many, [0] * (many - 1) + [thing]]:
                    fits = kinds is None or isinstance(kinds, (list, tuple)) and len(kinds) == many and all(
                        part is None or type(part) is int and 0 <= part <= 8 for part in kinds)
                    if not fits:
                        for ask in ASKS:
                            self.assertTrue(equal_kinds(self.raised(NoKind, ask, web, "a", kinds=kinds), [kinds]))

    def test_jams_and_too_long(self):
        more = [*round_of_600().gates(), ("lag", "c", "l", 3)]
        for web, due in [(JAMS, (Jams, 2)), (jam_at(600), (Jams, 600)), (jam_at(601), (TooLong, 600)),
                         (Web(round_of_600().inlets(), more), (TooLong, 600))]:
            for ask in ASKS:
                self.assertEqual(refusal(ask, web, "a"), due)
                self.assertEqual(refusal(ask, web, "a", kinds=(0,) * len(web.inlets())), due)

    def test_a_look_is_never_too_many(self):
        self.assertIs(shows_hold(JUST_2001, "a", None), False)
        self.assertIs(shows_hold(JUST_2001, "b", ("never", (), ((1,),) * 15, ((0,),))), False)
        self.assertIs(shows_hold(Web([("a", "x")], [("wait", "a", "b", 12)]), "a", ("never", ((1,),) * 12, ((1,),), ((0,),))),
                      True)
