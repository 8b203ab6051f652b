import unittest

from holdgates.alike import alike
from holdgates.bounds import STANDS
from holdgates.courses import Course
from holdgates.errors import Jams, NoLane, TooLong, TooMany
from holdgates.machines import machine
from holdgates.plain import plain
from holdgates.runs import run
from holdgates.webs import Web
from tests.helper import (JUST_2001, LINE, SMALL_2000, Bits, anything, equal_kinds, jam_at, luck_of, made_web,
                          other_of, refusal, round_of_600, unchanged)

HOLD = Web([("a", "x")], [("hold", "a", "b", 2, 0)])
JAMS = Web([("a", "x"), ("b", "x")], [("join", "a", "b", "c", 1)])


def by_hand(web, lanes, most=150):
    """The least machine, pair by pair: those are apart that take or show otherwise, or lead to such; None of more."""
    places = [web.lanes().index(lane) for lane in lanes]
    first = Bits([web])
    found, moves = {first.stand(): first}, {}
    line = [first]
    for bits in line:
        if len(found) > most:
            return None
        moves[bits.stand()] = told = []
        for choice, other in bits.nexts():
            told.append((choice, tuple(other.seen[-1][0][place] for place in places), other.stand()))
            if other.stand() not in found:
                found[other.stand()] = other
                line.append(other)
    nodes = list(found)

    def shown(node):
        due = [at for at, (_, rhythm) in enumerate(web.inlets()) if (rhythm * 60)[node[0]] == "x"]
        return due, [carried for _, carried, _ in moves[node]]
    apart = {(one, other) for one in nodes for other in nodes if shown(one) != shown(other)}
    for _ in range(len(nodes) + 1):
        more = {(one, other) for one in nodes for other in nodes if (one, other) not in apart and any(
            (mine[2], theirs[2]) in apart for mine, theirs in zip(moves[one], moves[other]))}
        if not more:
            break
        apart |= more
    line, rows = [nodes[0]], []
    for node in line:
        row = []
        for choice, carried, behind in moves[node]:
            like = [at for at, other in enumerate(line) if (other, behind) not in apart]
            if not like:
                line.append(behind)
                like = [len(line) - 1]
            row.append((choice, carried, like[0]))
        rows.append(row)
    return rows


class Machines(unittest.TestCase):
    def test_a_line(self):
        self.assertTrue(equal_kinds(machine(web=LINE, lanes=["a"]), [[((0,), (0,), 0), ((1,), (1,), 0)]]))
        self.assertTrue(equal_kinds(machine(LINE, ()), [[((0,), (), 0), ((1,), (), 0)]]))
        self.assertTrue(equal_kinds(machine(LINE, ("a", "a")), [[((0,), (0, 0), 0), ((1,), (1, 1), 0)]]))
        self.assertTrue(equal_kinds(machine(Web([("a", "-x")]), ["a"]), [
            [((), (None,), 1)], [((0,), (0,), 0), ((1,), (1,), 0)]]))

    def test_a_hold(self):
        # Of one kept and the next the least goes on: once a one is kept, what comes next goes on.
        web = Web([("a", "x")], [("hold", "a", "b", 1, 0)])
        self.assertTrue(equal_kinds(machine(web, ["b"]), [
            [((0,), (None,), 1), ((1,), (None,), 2)],
            [((0,), (0,), 1), ((1,), (0,), 2)],
            [((0,), (0,), 2), ((1,), (1,), 2)]]))

    def test_what_takes_at_unlike_beats_is_not_one(self):
        # Neither a nor b is shown, yet at odd beats a takes and at even ones b does.
        web = Web([("a", "x-"), ("b", "-x")])
        self.assertTrue(equal_kinds(machine(web, []), [[((0,), (), 1), ((1,), (), 1)], [((0,), (), 0), ((1,), (), 0)]]))
        self.assertEqual(len(machine(Web([("a", "xx")]), [])), 1)
        self.assertEqual(len(machine(Web([("a", "x-x-")]), ["a"])), 2)
        self.assertEqual(len(machine(Web([("a", "x-x-"), ("b", "xxx")]), ["a"])), 2)

    def test_numbered_by_when_each_is_first_come_to(self):
        luck = luck_of(121)
        for _ in range(60):
            web = made_web(luck, luck.randint(0, 3), most=4)
            lanes = luck.sample(web.lanes(), 1)
            if refusal(machine, web, lanes):
                continue
            rows = machine(web, lanes)
            met = [0]
            for row in rows:
                for _, _, number in row:
                    if number not in met:
                        met.append(number)
            self.assertEqual(met, list(range(len(rows))))

    def test_pair_by_pair(self):
        luck, many = luck_of(122), 0
        for _ in range(250):
            web = made_web(luck, luck.randint(0, 4), most=luck.choice([2, 3, 5]))
            lanes = luck.sample(web.lanes(), luck.randint(0, min(2, len(web.lanes()))))
            if refusal(machine, web, lanes):
                continue
            due = by_hand(web, lanes, 60)
            if due is not None:
                many += 1
                told = unchanged(machine, web, lanes)
                self.assertTrue(equal_kinds(told, due))
        self.assertTrue(many > 80, many)

    def test_it_shows_what_the_lanes_carry(self):
        luck, many = luck_of(123), 0
        for _ in range(120):
            web = made_web(luck, luck.randint(0, 5), most=6)
            lanes = luck.sample(web.lanes(), min(2, len(web.lanes())))
            if refusal(machine, web, lanes):
                continue
            rows, number = machine(web, lanes), 0
            feed = tuple(tuple(luck.choice((0, 1)) for _ in range(60)) for _ in web.inlets())
            for row in run(Course(web), feed, 60):
                choice = tuple(row[at] for at in range(len(feed)) if row[at] is not None)
                told = dict((move[0], move[1:]) for move in rows[number])
                self.assertEqual(told[choice][0], tuple(row[web.lanes().index(lane)] for lane in lanes))
                number = told[choice][1]
            many += 1
        self.assertTrue(many > 50)

    def test_one_machine_just_where_webs_are_alike(self):
        luck, many = luck_of(124), {True: 0, False: 0}
        for turn in range(600):
            web = made_web(luck, luck.randint(1, 4), most=4)
            other = plain(web) if turn % 3 == 0 else other_of(luck, web)
            lanes = [lane for lane in web.lanes() if lane in other.lanes()]
            lanes = luck.sample(lanes, min(2, len(lanes)))
            if web.inlets() != other.inlets() or web == other or refusal(alike, web, other, [(lane, lane) for lane in lanes]):
                continue
            if refusal(machine, web, lanes) or refusal(machine, other, lanes):
                continue
            told = alike(web, other, [(lane, lane) for lane in lanes])
            same = machine(web, lanes) == machine(other, lanes)
            self.assertIs(same, told[0] == "alike")
            many[same] += 1
        self.assertTrue(min(many.values()) > 40, many)

    def test_the_same_by_other_gates(self):
        for gates in [[("hold", "a", "c", 1, 0), ("hold", "c", "b", 1, 0)],
                      [("wait", "a", "d", 0), ("hold", "d", "b", 2, 0), ("lag", "b", "c", 1)]]:
            self.assertEqual(machine(Web([("a", "x")], gates), ["b"]), machine(HOLD, ["b"]))
        self.assertNotEqual(machine(Web([("a", "x")], [("wait", "a", "b", 2)]), ["b"]), machine(HOLD, ["b"]))
        self.assertNotEqual(machine(HOLD, ["a", "b"]), machine(HOLD, ["b", "a"]))

    def test_late_to_tell_apart(self):
        # Stands of a lag are told apart only as many beats later, those of deals in a row later still.
        web = Web([("a", "x")], [("deal", "a", "b", "c", "lrrrrr"), ("deal", "b", "d", "e", "rrrrrl"), ("lag", "d", "f", 1)])
        self.assertEqual(len(machine(web, ["f"])), 37)
        self.assertEqual(len(machine(web, ["a"])), 1)
        self.assertEqual(len(machine(web, ["b"])), 6)
        self.assertEqual(len(machine(Web([("a", "x")], [("lag", "a", "b", 9)]), ["b"])), 1023)


class Refused(unittest.TestCase):
    def test_no_lane_of_anything_ahead_of_all(self):
        for thing in anything() + ["zz"]:
            if isinstance(thing, str) and thing in ("a", "b", "c"):
                continue
            for web in [HOLD, JAMS]:
                for lanes in [[thing], (thing,), ["a", "b", thing, None], [thing, "zz"]]:
                    with self.assertRaises(NoLane) as caught:
                        machine(web, lanes)
                    self.assertIs(type(caught.exception), NoLane)
                    self.assertTrue(equal_kinds(caught.exception.lane, thing))

    def test_jams_and_too_long(self):
        more = [*round_of_600().gates(), ("lag", "c", "l", 3)]
        for web, due in [(JAMS, (Jams, 2)), (jam_at(600), (Jams, 600)), (jam_at(601), (TooLong, 600)),
                         (Web(round_of_600().inlets(), more), (TooLong, 600))]:
            for lanes in [[], ["a"], web.lanes()]:
                self.assertEqual(refusal(machine, web, lanes), due)

    def test_stands_and_one_more(self):
        self.assertIsNone(refusal(machine, SMALL_2000, ["h"]))
        self.assertIsNone(refusal(machine, SMALL_2000, SMALL_2000.lanes()))
        self.assertEqual(refusal(machine, JUST_2001, []), (TooMany, STANDS))
        self.assertEqual(refusal(machine, JUST_2001, JUST_2001.lanes()), (TooMany, STANDS))
        self.assertEqual(refusal(machine, Web([("a", "x")], [("wait", "a", "b", 10)]), ["a"]), (TooMany, STANDS))
        self.assertEqual(len(machine(Web([("a", "x")], [("wait", "a", "b", 9)]), ["a"])), 1)
