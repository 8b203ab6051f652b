import itertools
import unittest

from holdgates.boxes import hull
from holdgates.courses import Course
from holdgates.desk import Desk
from holdgates.errors import (Due, Full, Hidden, Jams, Needed, NoBeat, NoDeed, NoGate, NoInput, NoLane, NoName, NoToken, Taken,
                              TooMany, Unfit, Unseen)
from holdgates.feeds import times_by
from holdgates.stands import stand
from holdgates.trees import tree_of
from holdgates.webs import Web
from holdgates.yard import Yard
from tests.helper import (HandYard, anything, due, equal_kinds, hand_run, lies_in, luck_of, made_deed, shown_by, unchanged)

FAR = 10 ** 12
LINE = Web([("a", "x")])
HOLD = Web([("a", "x")], [("hold", "a", "b", 1, 0)])
LESS = Web([("a", "x")], [("hold", "a", "b", 1, 1)])
TWO = Web([("a", "x"), ("b", "x-")], [("cross", "a", "b", "c", "d"), ("wait", "c", "e", 1)])
JOIN = Web([("a", "x"), ("b", "x")], [("wait", "a", "c", 1), ("join", "c", "b", "d", 2)])
TELLS = ("of", "course", "now", "due", "fed", "hidden", "looks", "boxes", "can_be", "tree", "stand")


def done(*deeds):
    """A yard that has done some deeds, one by one."""
    yard = Yard()
    for deed in deeds:
        yard.do(deed)
    return yard


def stood(yard):
    """All that a yard tells."""
    told = [yard.names(), yard.deeds(), len(yard)]
    for name in yard.names():
        if due(yard.now, name):
            told.append(yard.web(name))
            continue
        told.append([getattr(yard, ask)(name) for ask in TELLS if ask != "stand" or not yard.hidden(name)])
        told.append([yard.within(name, -2, 5)])
        told.append([yard.carried(name, lane, beat=beat) for beat in range(1, yard.now(name) + 1)
                     for lane in yard.course(name).web().lanes()])
    return told


def streams(*deeds, web=HOLD):
    """A yard with a web w and its stream s that has done some deeds."""
    return done(("web", "w", web), ("stream", "s", "w"), *deeds)


class Told(unittest.TestCase):
    def test_empty(self):
        yard = Yard()
        self.assertTrue(equal_kinds([len(yard), yard.names(), yard.deeds(), yard.undo(), yard.redo()], [0, [], [], False, False]))
        self.assertTrue(yard == Yard())

    def test_a_stream(self):
        yard = streams(("step", "s", (5,)), ("step", "s", (None,)), ("lift", "s", 0, "up"), ("look", "s", "b", 4))
        self.assertTrue(equal_kinds(yard.names(), ["w", "s"]))
        self.assertEqual(len(yard), 2)
        self.assertTrue(yard.web("w") == HOLD)
        course = Course(HOLD, lifts=[(2, 0, "up")])
        for ask, told in [("of", "w"), ("course", course), ("now", 2), ("due", [0]), ("fed", ((5, None),)), ("hidden", [(0, 1)]),
                          ("looks", [(2, "b", 4)]), ("boxes", [((4, 4),)]), ("can_be", [(4, 4)]),
                          ("tree", tree_of(course, [(2, "b", 4)], given=[(0, 0, 5)]))]:
            self.assertTrue(equal_kinds(getattr(yard, ask)("s"), told), ask)
            self.assertTrue(equal_kinds(getattr(yard, ask)(name="s"), told), ask)
        self.assertTrue(equal_kinds(yard.within("s", 0, 9), 1))
        self.assertEqual(yard.within(high=3, low=0, name="s"), 0)
        for lane, beat, told in [("b", 2, (4, 4)), ("a", 2, (4, 4)), ("a", 1, (5, 5)), ("b", 1, None), ("b", None, (4, 4))]:
            self.assertTrue(equal_kinds(yard.carried("s", lane, beat=beat), told))
        self.assertEqual(yard.carried(lane="b", name="s"), (4, 4))
        with self.assertRaises(TypeError):
            yard.carried("s", "b", 2)
        self.assertEqual(due(yard.stand, "s"), (Hidden, "s"))
        yard.do(("tell", "s", 0, 1, 4))
        self.assertTrue(equal_kinds(yard.stand("s"), (2, ((5,),))))

    def test_at_beat_0(self):
        yard = streams(web=TWO)
        for ask, told in [("now", 0), ("due", [0, 1]), ("fed", ((), ())), ("hidden", []), ("looks", []), ("boxes", [()]),
                          ("can_be", []), ("tree", [("fits",)]), ("stand", (0, ((), ()))), ("course", Course(TWO))]:
            self.assertTrue(equal_kinds(getattr(yard, ask)("s"), told), ask)
        self.assertEqual(yard.within("s", 5, 4), 1)
        self.assertEqual(due(yard.carried, "s", "a"), (NoBeat, 0))

    def test_what_is_told_is_the_askers_own(self):
        yard = streams(("step", "s", (None,)), ("step", "s", (None,)), ("look", "s", "b", 4))
        before = stood(yard)
        for ask in TELLS[:-1]:
            unchanged(getattr(yard, ask), "s")
        for ask in (yard.names, yard.deeds):
            unchanged(ask)
            ask().clear()
        unchanged(yard.within, "s", 0, 4)
        self.assertEqual(stood(yard), before)

    def test_what_was_handed_in_may_change(self):
        deeds = [("web", "w", HOLD), ("stream", "s", "w")]
        yard = Yard()
        yard.run(deeds=deeds)
        deeds.clear()
        self.assertEqual(yard.deeds(), [("web", "w", HOLD), ("stream", "s", "w")])

    def test_due_at_the_next_beat(self):
        yard = streams(web=TWO)
        for beat in range(40):
            self.assertEqual(yard.due("s"), [0] if beat % 2 else [0, 1])
            yard.do(("step", "s", (beat,) if beat % 2 else (beat, 7)))
        self.assertEqual((yard.now("s"), yard.due("s")), (40, [0, 1]))
        self.assertEqual(yard.fed("s"), (tuple(range(40)), (7,) * 20))
        self.assertEqual(yard.stand("s"), stand(Course(TWO), yard.fed("s"), 40))

    def test_names_keep_their_places(self):
        yard = done(("web", "z", LINE), ("stream", "b", "z"), ("web", "a", HOLD), ("twin", "b", "c"))
        self.assertEqual(yard.names(), ["z", "b", "a", "c"])
        yard.do(("change", "z", Web([("q", "x")])))
        self.assertEqual(yard.names(), ["z", "b", "a", "c"])
        yard.do(("drop", "b"))
        yard.do(("stream", "b", "a"))
        self.assertEqual(yard.names(), ["z", "a", "c", "b"])
        for _ in range(3):
            self.assertIs(yard.undo(), True)
        self.assertEqual(yard.names(), ["z", "b", "a", "c"])
        for _ in range(3):
            self.assertIs(yard.redo(), True)
        self.assertEqual(yard.names(), ["z", "a", "c", "b"])

    def test_equal_where_deeds_are(self):
        one, other = streams(("step", "s", (1,))), Yard()
        self.assertFalse(one == other)
        self.assertTrue(one != other)
        other.run(one.deeds())
        self.assertTrue(one == other)
        other.do(("drop", "s"))
        self.assertFalse(one == other)
        other.undo()
        self.assertTrue(one == other)
        # The same stands there, but by other deeds.
        other.do(("lift", "s", 0, "up"))
        one.do(("lift", "s", 0, "down"))
        one.do(("lift", "s", 0, "up"))
        self.assertTrue(one.course("s") == other.course("s"))
        self.assertFalse(one == other)
        for thing in anything():
            self.assertIs(Yard() == thing, isinstance(thing, Yard) and thing.deeds() == [])
            self.assertIs(one == thing, False)
        self.assertFalse(Yard() == Desk())


class ByHand(unittest.TestCase):
    def agree(self, luck, yard, hand):
        self.assertTrue(equal_kinds(yard.names(), list(hand.named)))
        self.assertEqual(yard.deeds(), hand.deeds())
        self.assertEqual(len(yard), len(hand.named))
        for name, thing in hand.named.items():
            if isinstance(thing, Web):
                self.assertTrue(yard.web(name) == thing)
                self.assertEqual(due(yard.now, name), (NoName, name))
                continue
            web = hand.named[thing.of]
            self.assertEqual(due(yard.web, name), (NoName, name))
            for ask, told in [("of", thing.of), ("course", thing.course(web)), ("now", thing.beat), ("hidden", thing.hidden()),
                              ("fed", tuple(map(tuple, thing.rows))), ("looks", thing.looks)]:
                self.assertTrue(equal_kinds(getattr(yard, ask)(name), told), ask)
            self.agree_on_hidden(luck, yard, name, thing, web)

    def agree_on_hidden(self, luck, yard, name, thing, web):
        cases, hidden = thing.cases(web), thing.hidden()
        nodes, fits, _ = cases.tree()
        self.assertTrue(equal_kinds(yard.tree(name), nodes))
        boxes = [dict(zip(cases.inputs, box)) for box in fits]
        spans = [tuple(box.get(part, (None, None)) for part in hidden) for box in boxes]
        self.assertTrue(equal_kinds(yard.can_be(name), hull(spans)))
        if not hidden:
            self.assertTrue(equal_kinds(yard.boxes(name), [()]))
            self.assertTrue(equal_kinds(yard.stand(name), stand(thing.course(web), thing.fed(()), thing.beat)))
        else:
            self.assertEqual(due(yard.stand, name), (Hidden, name))
        if len(hidden) > 3:
            return
        found, many = yard.boxes(name), 0
        lane, beat = luck.choice(web.lanes()), luck.randint(1, max(1, thing.beat))
        seen = set()
        for numbers in itertools.product([-1000, -1, 0, 1, 2, 3, 4, 1000], repeat=len(hidden)):
            rows = hand_run(thing.course(web), thing.fed(numbers), thing.beat)[0]
            lanes = web.lanes()
            right = all(rows[at - 1][lanes.index(told)] == number for at, told, number in thing.looks)
            self.assertEqual(sum(lies_in(box, numbers) for box in found), int(right))
            many += right and all(0 <= number <= 4 for number in numbers)
            if right and thing.beat:
                seen.add(rows[beat - 1][lanes.index(lane)])
        self.assertTrue(equal_kinds(yard.within(name, 0, 4), many))
        if not thing.beat:
            self.assertEqual(due(yard.carried, name, lane), (NoBeat, 0))
            return
        if not seen:
            # What can be lies between the few numbers.
            self.assertTrue(yard.within(name, -1000, 1000) > 0)
            return
        told = None
        if None not in seen:
            told = tuple(None if abs(end) == 1000 else end for end in (min(seen), max(seen)))
        self.assertTrue(equal_kinds(yard.carried(name, lane, beat=beat), told))
        if beat == thing.beat:
            self.assertTrue(equal_kinds(yard.carried(name, lane), told))

    def test_deeds_by_luck(self):
        counts = {}
        for seed in range(90):
            luck = luck_of(seed + 2600)
            yard, hand = Yard(), HandYard()
            for _ in range(45):
                turn = luck.random()
                if turn < 0.1:
                    self.assertIs(yard.undo(), hand.undo())
                elif turn < 0.2:
                    self.assertIs(yard.redo(), hand.redo())
                else:
                    deeds = [made_deed(luck, yard) for _ in range(luck.choice([1, 1, 1, 1, 0, 2, 3]))]
                    if len(deeds) > 1 and luck.random() < 0.1:
                        deeds[-1] = ("none", "a")
                    if len(deeds) == 1:
                        told = due(yard.do, deeds[0])
                    else:
                        told = due(yard.run, deeds)
                    right = hand.run(deeds)
                    self.assertTrue(equal_kinds(told, right), (deeds, told, right))
                    for word in [deed[0] for deed in deeds] if right is None else [right[0]]:
                        counts[word] = counts.get(word, 0) + 1
                self.agree(luck, yard, hand)
        for word in ("web", "stream", "step", "lift", "look", "tell", "twin", "change", "drop", Due, NoDeed, NoGate, NoInput,
                     NoName, NoToken, Taken, Unfit, Unseen, Needed):
            self.assertTrue(counts.get(word, 0) > 15, (word, counts))


class Refused(unittest.TestCase):
    def refused(self, yard, deed, *told):
        """A deed is refused so, and all is as it was, also what was taken back."""
        before, copy = stood(yard), yard.copied()
        self.assertTrue(equal_kinds(due(yard.do, deed), told), (deed, told))
        self.assertTrue(equal_kinds(due(yard.run, [deed]), told))
        self.assertTrue(equal_kinds(stood(yard), before))
        self.assertIs(yard.redo(), copy.redo())
        self.assertEqual(stood(yard), stood(copy))
        while yard.undo():
            self.assertIs(copy.undo(), True)
            self.assertEqual(yard.deeds(), copy.deeds())
        while yard.redo():
            self.assertIs(copy.redo(), True)
        self.assertEqual(stood(yard), stood(copy))

    def test_no_deed_of_anything(self):
        yard = streams(("step", "s", (1,)), ("step", "s", (1,)))
        yard.undo()
        for thing in anything() + [("web", "v"), ("drop", "w", 1), ["drop", "s"], ("drop", "S"), ("look", "s", "b", FAR + 1),
                                   ("step", "s", [1]), ("lift", "s", True, "up"), ("drop", "nobody", None)]:
            self.assertTrue(equal_kinds(due(yard.do, thing), (NoDeed, 0)))
            self.assertTrue(equal_kinds(due(yard.run, [thing]), (NoDeed, 0)))
            self.assertTrue(equal_kinds(due(yard.run, [("drop", "s"), thing, thing]), (NoDeed, 1)))
            if not isinstance(thing, list):
                self.assertTrue(equal_kinds(due(yard.run, thing), (NoDeed, -1)))
        self.assertEqual(due(yard.run, (("drop", "s"),)), (NoDeed, -1))
        self.assertEqual(yard.deeds(), streams(("step", "s", (1,))).deeds())
        self.assertIs(yard.redo(), True)

    def test_twenty_names_and_twenty_one(self):
        yard = done(("web", "w", LINE), *[("stream", "s" + "abcdefghijklmnopqr"[at], "w") for at in range(18)])
        self.assertEqual(len(yard), 19)
        yard.do(("twin", "sa", "tw"))
        self.assertEqual(len(yard), 20)
        # Ahead of names that are there, or aren't.
        for deed in [("web", "w", LINE), ("web", "new", LINE), ("stream", "sa", "nobody"), ("stream", "new", "w"),
                     ("twin", "sa", "sb"), ("twin", "nobody", "new")]:
            self.refused(yard, deed, Full, 20)
        self.refused(yard, ("step", "nobody", ()), NoName, "nobody")
        yard.do(("drop", "sb"))
        yard.do(("web", "new", HOLD))
        self.refused(yard, ("web", "newer", HOLD), Full, 20)

    def test_taken_ahead_of_no_name(self):
        yard = streams()
        for deed, name in [(("web", "w", LINE), "w"), (("web", "s", LINE), "s"), (("stream", "s", "nobody"), "s"),
                           (("stream", "w", "s"), "w"), (("twin", "nobody", "s"), "s"), (("twin", "s", "s"), "s"),
                           (("twin", "w", "w"), "w")]:
            self.refused(yard, deed, Taken, name)

    def test_no_name(self):
        yard = streams()
        for deed, name in [(("stream", "t", "nobody"), "nobody"), (("stream", "t", "s"), "s"), (("twin", "w", "t"), "w"),
                           (("twin", "nobody", "t"), "nobody"), (("step", "w", (1, 2)), "w"), (("lift", "w", 0, "up"), "w"),
                           (("look", "w", "a", 1), "w"), (("tell", "w", 0, 0, 1), "w"), (("change", "s", LINE), "s"),
                           (("change", "nobody", TWO), "nobody"), (("drop", "nobody"), "nobody")]:
            self.refused(yard, deed, NoName, name)

    def test_asks_of_anything(self):
        yard = streams(("step", "s", (1,)))
        for thing in anything() + ["nobody", "w"]:
            for ask in TELLS:
                self.assertTrue(equal_kinds(due(getattr(yard, ask), thing), (NoName, thing)))
            self.assertTrue(equal_kinds(due(yard.within, thing, None, None), (NoName, thing)))
            self.assertTrue(equal_kinds(due(yard.carried, thing, None, beat=None), (NoName, thing)))
            if thing != "w":
                self.assertTrue(equal_kinds(due(yard.web, thing), (NoName, thing)))
            if thing not in ("a", "b"):
                self.assertTrue(equal_kinds(due(yard.carried, "s", thing, beat="z"), (NoLane, thing)))
            if thing is not None and not (type(thing) is int and thing == 1):
                self.assertTrue(equal_kinds(due(yard.carried, "s", "b", beat=thing), (NoBeat, thing)))
        self.assertEqual(due(yard.web, "s"), (NoName, "s"))

    def test_a_lane_at_beats_0_and_its_own_and_behind(self):
        yard = streams()
        for beat, told in [(None, (NoBeat, 0)), (0, (NoBeat, 0)), (1, (NoBeat, 1)), (True, (NoBeat, True))]:
            self.assertTrue(equal_kinds(due(yard.carried, "s", "a", beat=beat), told))
        for number in (3, None, 4):
            yard.do(("step", "s", (number,)))
        for beat, told in [(1, (3, 3)), (2, (None, None)), (3, (4, 4)), (None, (4, 4))]:
            self.assertTrue(equal_kinds(yard.carried("s", "a", beat=beat), told))
        self.assertEqual([yard.carried("s", "b", beat=beat) for beat in (1, 2, 3)], [None, (None, 3), (3, 4)])
        for beat in (0, 4, -1, 10 ** 60):
            self.assertEqual(due(yard.carried, "s", "a", beat=beat), (NoBeat, beat))
        self.assertEqual(due(yard.carried, "s", "c", beat=9), (NoLane, "c"))

    def test_forty_beats_and_forty_one(self):
        yard = streams(*[("step", "s", (at,)) for at in range(40)])
        self.refused(yard, ("step", "s", (1,)), Full, 40)
        self.refused(yard, ("step", "s", (None,) * 9), Full, 40)
        yard.do(("look", "s", "a", 39))
        yard.do(("lift", "s", 0, "up"))

    def test_due(self):
        yard = streams(("step", "s", (1, 1)), web=TWO)
        for numbers in [(), (1, 1), (None, None), (None,) * 9]:
            self.refused(yard, ("step", "s", numbers), Due, 1)
        none = streams(("step", "s", (2,)), web=Web([("a", "x-")]))
        self.refused(none, ("step", "s", (1,)), Due, 0)
        none.do(("step", "s", ()))
        self.assertEqual(none.now("s"), 2)

    def test_six_hidden_and_seven(self):
        yard = streams(*[("step", "s", (None, None)[:2 - at % 2]) for at in range(4)], web=TWO)
        self.assertEqual(len(yard.hidden("s")), 6)
        self.refused(yard, ("step", "s", (None, 1)), Full, 6)
        self.refused(yard, ("step", "s", (None, None)), Full, 6)
        self.refused(yard, ("step", "s", (None,)), Due, 2)
        yard.do(("step", "s", (1, 1)))
        yard.do(("tell", "s", 1, 0, 5))
        # One more behind a told one.
        yard.do(("step", "s", (None,)))
        self.assertEqual(yard.hidden("s"), [(0, 0), (0, 1), (0, 2), (0, 3), (0, 5), (1, 1)])
        self.refused(yard, ("step", "s", (None, 1)), Full, 6)
        two = streams(*[("step", "s", (None,)) for _ in range(5)], web=Web([("a", "x"), ("b", "-----x")]))
        self.refused(two, ("step", "s", (None, None)), Full, 6)
        two.do(("step", "s", (None, 1)))

    def test_jams_where_its_course_does(self):
        yard = streams(("step", "s", (1, 1)), ("step", "s", (1, 1)), ("step", "s", (1, 1)), web=JOIN)
        self.refused(yard, ("step", "s", (1, 1)), Jams, 4)
        self.refused(yard, ("step", "s", (None,) * 7), Due, 2)
        yard.do(("twin", "s", "t"))
        self.refused(yard, ("step", "t", (None, None)), Jams, 4)
        # Lifted, the wait lets one more go; so it jams sooner.
        sooner = streams(("lift", "s", 0, "up"), ("step", "s", (1, 1)), ("step", "s", (1, 1)), web=JOIN)
        self.refused(sooner, ("step", "s", (1, 1)), Jams, 3)
        hidden = streams(*[("step", "s", (None, None))] * 3, web=JOIN)
        self.refused(hidden, ("step", "s", (None, 1)), Full, 6)

    def test_no_gate(self):
        web = Web([("a", "x"), ("b", "x")], [("hold", "a", "c", 1, 0), ("lag", "b", "d", 1), ("cross", "c", "d", "e", "f"),
                                             ("deal", "e", "g", "h", "l"), ("wait", "g", "i", 1)])
        yard = streams(web=web)
        for gate in [-1, 1, 3, 5, 10, 10 ** 70, -5]:
            self.refused(yard, ("lift", "s", gate, "up"), NoGate, gate)
        for gate in [0, 2, 4]:
            yard.do(("lift", "s", gate, "up"))
        self.assertEqual(yard.course("s").lifts(), [(0, 0, "up"), (0, 2, "up"), (0, 4, "up")])

    def test_twelve_lifts_and_one_more_and_later_ones_alone(self):
        yard = streams(web=Web([("a", "x")], [("hold", "a", "b", 1, 0), ("wait", "b", "c", 1)]))
        for beat in range(6):
            yard.do(("lift", "s", 1, "up"))
            yard.do(("lift", "s", 0, "down"))
            if beat < 5:
                yard.do(("step", "s", (beat,)))
        self.assertEqual(yard.course("s").lifts(),
                         [(beat, gate, "up" if gate else "down") for beat in range(6) for gate in (0, 1)])
        # In the place of one of this gate and beat.
        yard.do(("lift", "s", 0, "up"))
        self.assertEqual(yard.course("s").lifts()[-2:], [(5, 0, "up"), (5, 1, "up")])
        self.assertEqual(yard.deeds()[-2:], [("lift", "s", 0, "down"), ("lift", "s", 0, "up")])
        yard.do(("step", "s", (9,)))
        for gate in (0, 1):
            self.refused(yard, ("lift", "s", gate, "up"), Full, 12)
        self.refused(yard, ("lift", "s", 2, "up"), NoGate, 2)
        yard.undo()
        yard.do(("lift", "s", 0, "up"))

    def test_lifts_from_the_next_beat_on(self):
        yard = streams(("step", "s", (5,)), ("step", "s", (4,)), ("lift", "s", 0, "up"), ("step", "s", (2,)))
        self.assertEqual([yard.carried("s", "b", beat=beat) for beat in (1, 2, 3)], [None, (4, 4), (2, 2)])
        self.assertEqual(yard.stand("s"), (3, ((5,),)))

    def test_looks(self):
        yard = streams()
        self.refused(yard, ("look", "s", "c", 1), NoLane, "c")
        self.refused(yard, ("look", "s", "a", 1), NoToken, "a")
        yard.do(("step", "s", (None,)))
        self.refused(yard, ("look", "s", "b", 1), NoToken, "b")
        for at in range(8):
            yard.do(("look", "s", "a", 3))
        self.assertEqual(yard.looks("s"), [(1, "a", 3)] * 8)
        self.refused(yard, ("look", "s", "a", 3), Full, 8)
        self.refused(yard, ("look", "s", "a", 4), Full, 8)
        self.refused(yard, ("look", "s", "b", 4), NoToken, "b")
        self.refused(yard, ("look", "s", "c", 4), NoLane, "c")

    def test_unseen(self):
        yard = streams(("step", "s", (None,)), ("look", "s", "a", 3), ("step", "s", (2,)), ("twin", "s", "t"))
        for name in ("s", "t"):
            self.refused(yard, ("look", name, "a", 3), Unseen, name)
            self.refused(yard, ("look", name, "b", 3), Unseen, name)
            self.refused(yard, ("tell", name, 0, 0, 4), Unseen, name)
            yard.do(("look", name, "b", 2))
        self.refused(yard, ("change", "w", LESS), Unseen, "s")
        yard.do(("drop", "s"))
        self.refused(yard, ("change", "w", LESS), Unseen, "t")

    def test_tell(self):
        yard = streams(("step", "s", (None,)), ("step", "s", (7,)), ("step", "s", (None,)))
        for inlet, nth in [(0, 1), (0, 3), (1, 0), (-1, 0), (0, -1), (10 ** 70, 0)]:
            self.refused(yard, ("tell", "s", inlet, nth, 1), NoInput, inlet, nth)
        yard.do(("tell", "s", 0, 2, -4))
        self.refused(yard, ("tell", "s", 0, 2, -4), NoInput, 0, 2)
        self.assertEqual((yard.fed("s"), yard.hidden("s")), (((None, 7, -4),), [(0, 0)]))

    def test_too_many(self):
        yard = streams(*[("step", "s", (None,)) for _ in range(6)], web=LINE)
        self.refused(yard, ("look", "s", "a", 5), TooMany, 200)
        yard.do(("tell", "s", 0, 0, 1))
        yard.do(("tell", "s", 0, 1, 1))
        yard.do(("look", "s", "a", 5))

    def test_too_many_of_a_number_told(self):
        # With the first number known the tree is split otherwise, and has more leaves.
        step, hand = ("step", "s", (None,)), HandYard()
        deeds = [step, ("look", "s", "a", 2), step, step, ("look", "s", "a", 5), step, step, step, ("look", "s", "b", 1)]
        yard = streams(*deeds, web=LESS)
        self.assertIsNone(hand.run(yard.deeds()))
        self.assertEqual(len(yard.tree("s")), 2 * 164 - 1)
        self.assertEqual(hand.run([("tell", "s", 0, 0, 2)]), (TooMany, 200))
        self.refused(yard, ("tell", "s", 0, 0, 2), TooMany, 200)
        self.refused(yard, ("tell", "s", 0, 0, 3), Unseen, "s")

    def test_needed(self):
        yard = streams(("twin", "s", "t"))
        self.refused(yard, ("drop", "w"), Needed, "w")
        yard.do(("drop", "s"))
        self.refused(yard, ("drop", "w"), Needed, "w")
        yard.run([("drop", "t"), ("drop", "w")])
        self.assertEqual(yard.names(), [])


class Change(unittest.TestCase):
    def test_streams_go_through_the_other_web_from_their_beginning(self):
        yard = done(("web", "w", HOLD), ("stream", "s", "w"), ("web", "v", HOLD), ("stream", "t", "v"), ("stream", "u", "w"))
        for name in "stu":
            yard.run([("step", name, (5,)), ("step", name, (None,)), ("lift", name, 0, "up"), ("step", name, (1,))])
        yard.do(("look", "s", "b", 1))
        before = stood(yard)
        yard.do(("change", "w", LESS))
        for name, web, carried in [("s", LESS, (5, None)), ("u", LESS, (5, None)), ("t", HOLD, (None, 5))]:
            self.assertTrue(yard.course(name) == Course(web, lifts=[(2, 0, "up")]))
            self.assertEqual(yard.carried(name, "b", beat=2), carried)
            self.assertEqual((yard.now(name), yard.fed(name), yard.hidden(name)), (3, ((5, None, 1),), [(0, 1)]))
        self.assertEqual(yard.looks("s"), [(3, "b", 1)])
        self.assertTrue(yard.web("w") == LESS and yard.web("v") == HOLD)
        self.assertTrue(yard.undo())
        self.assertEqual(stood(yard), before)

    def test_unfit_inlets(self):
        yard = streams(web=TWO)
        for web in [HOLD, Web([("a", "x"), ("b", "x")]), Web([("b", "x-"), ("a", "x")]),
                    Web([("a", "x"), ("b", "x-"), ("c", "x")]), Web([("a", "x"), ("b", "x-x-")])]:
            self.assertEqual(due(yard.do, ("change", "w", web)), (Unfit, "w"))
        # Their lanes may be others.
        yard.do(("change", "w", Web([("p", "x"), ("q", "x-")])))
        self.assertEqual(yard.course("s").web().lanes(), ["p", "q"])

    def test_unfit_streams_in_the_order_of_their_coming(self):
        yard = done(("web", "w", HOLD), ("stream", "z", "w"), ("stream", "b", "w"), ("stream", "a", "w"))
        yard.run([("lift", "b", 0, "up"), ("step", "a", (1,)), ("step", "a", (1,)), ("look", "a", "b", 1)])
        for gates, name in [([], "b"), ([("lag", "a", "b", 1)], "b"), ([("hold", "a", "c", 1, 0)], "a"),
                            ([("wait", "a", "b", 2)], "a")]:
            web = Web([("a", "x")], gates)
            self.assertEqual(due(yard.do, ("change", "w", web)), (Unfit, name))
        yard.do(("change", "w", Web([("q", "x")], [("wait", "q", "b", 1)])))
        # Behind a drop it comes last.
        again = done(("web", "w", HOLD), ("stream", "b", "w"), ("stream", "c", "w"), ("drop", "b"), ("stream", "b", "w"),
                     ("lift", "b", 0, "up"), ("lift", "c", 0, "up"))
        self.assertEqual(due(again.do, ("change", "w", LINE)), (Unfit, "c"))

    def test_unfit_where_the_new_web_jams_by_its_beat(self):
        slow = Web([("a", "x"), ("b", "x")], [("wait", "a", "c", 9), ("join", "c", "b", "d", 2)])
        yard = streams(*[("step", "s", (1, 1))] * 3, ("stream", "t", "w"), *[("step", "t", (1, 1))] * 4, web=slow)
        self.assertEqual(due(yard.do, ("change", "w", JOIN)), (Unfit, "t"))
        yard.do(("drop", "t"))
        yard.do(("change", "w", JOIN))
        self.assertEqual(due(yard.do, ("step", "s", (1, 1))), (Jams, 4))

    def test_all_unfit_ones_ahead_of_unseen(self):
        yard = done(("web", "w", HOLD), ("stream", "s", "w"), ("stream", "t", "w"))
        yard.run([("step", name, (number,)) for name in "st" for number in (4, 2)])
        yard.run([("look", "s", "b", 2), ("look", "t", "b", 2)])
        self.assertEqual(due(yard.do, ("change", "w", LESS)), (Unseen, "s"))
        yard.do(("step", "t", (1,)))
        yard.do(("lift", "t", 0, "up"))
        other = Web([("a", "x")], [("hold", "a", "b", 1, 1), ("wait", "b", "c", 1)])
        self.assertEqual(due(yard.do, ("change", "w", other)), (Unseen, "s"))
        other = Web([("a", "x")], [("lag", "a", "b", 1)])
        self.assertEqual(due(yard.do, ("change", "w", other)), (Unfit, "t"))

    def test_too_many_and_unseen_stream_by_stream(self):
        late, soon = Web([("a", "x")], [("wait", "a", "b", 6)]), Web([("a", "x")], [("wait", "a", "b", 0)])
        for names in ["st", "ts"]:
            yard = done(("web", "w", late), *[("stream", name, "w") for name in names])
            yard.run([("step", "s", (number,)) for number in (5, None, None, None, None, None, None)])
            yard.run([("step", "t", (number,)) for number in (5, 1, 1, 1, 1, 1, 1)])
            yard.run([("look", "s", "b", 5), ("look", "t", "b", 5)])
            self.assertEqual(due(yard.do, ("change", "w", soon)), (TooMany, 200) if names == "st" else (Unseen, "t"))
            yard.do(("drop", "s"))
            self.assertEqual(due(yard.do, ("change", "w", soon)), (Unseen, "t"))
            self.assertTrue(yard.web("w") == late)


class Runs(unittest.TestCase):
    def test_all_or_none(self):
        yard = streams(("step", "s", (1,)))
        before = stood(yard)
        good = [("step", "s", (2,)), ("look", "s", "b", 1), ("twin", "s", "t")]
        for wrong, told in [(("drop", "w"), (Needed, "w")), (("look", "s", "b", 3), (Unseen, "s")), (None, (NoDeed, 3)),
                            (("step", "t", ()), (Due, 1)), (("twin", "s", "t"), (Taken, "t"))]:
            self.assertEqual(due(yard.run, good + [wrong, None]), told)
            self.assertEqual(stood(yard), before)
        self.assertIsNone(yard.run(good))
        self.assertEqual(yard.deeds()[-3:], good)
        self.assertIs(yard.undo(), True)
        self.assertEqual(stood(yard), before)
        self.assertIs(yard.redo(), True)
        self.assertEqual(yard.names(), ["w", "s", "t"])

    def test_refused_as_the_first_that_is_not_done(self):
        yard = Yard()
        # What is no deed further on waits for its turn.
        self.assertEqual(due(yard.run, [("drop", "w"), None]), (NoName, "w"))
        self.assertEqual(due(yard.run, [("web", "w", LINE), None, ("drop", "x")]), (NoDeed, 1))
        self.assertEqual(due(yard.run, [("web", "w", LINE), ("web", "w", LINE)]), (Taken, "w"))
        self.assertEqual(len(yard), 0)

    def test_a_run_of_none(self):
        yard = streams()
        self.assertIsNone(yard.run([]))
        self.assertIsNone(yard.do(("drop", "s")))
        self.assertIs(yard.undo(), True)
        before = stood(yard)
        self.assertIs(yard.undo(), True)
        self.assertEqual(stood(yard), before)
        self.assertIs(yard.undo(), True)
        self.assertEqual(yard.names(), ["w"])
        for names in [["w", "s"], ["w", "s"], ["w"]]:
            self.assertIs(yard.redo(), True)
            self.assertEqual(yard.names(), names)
        self.assertIs(yard.redo(), False)
        yard.undo()
        yard.run([])
        self.assertIs(yard.redo(), False)
        empty = Yard()
        empty.run([])
        self.assertEqual([empty.undo(), empty.undo(), empty.redo(), empty.redo()], [True, False, True, False])

    def test_two_hundred_deeds(self):
        deeds = [("web", "w", LINE), ("stream", "s", "w")]
        for _ in range(33):
            deeds += [("twin", "s", "t"), ("step", "t", (1,)), ("look", "t", "a", 1), ("twin", "t", "u")]
            deeds += [("drop", "u"), ("drop", "t")]
        yard = done(*deeds)
        self.assertEqual(yard.deeds(), deeds)
        many = 0
        while yard.undo():
            many += 1
        self.assertEqual((many, len(yard)), (200, 0))
        while yard.redo():
            many -= 1
        self.assertEqual((many, yard.deeds(), yard.names()), (0, deeds, ["w", "s"]))

    def test_undo_and_redo_at_the_ends_and_behind_a_refused_deed(self):
        yard = streams(("step", "s", (1,)), ("step", "s", (2,)))
        states = [stood(yard)]
        while yard.undo():
            states.append(stood(yard))
        self.assertIs(yard.undo(), False)
        self.assertEqual(len(states), 5)
        for state in states[::-1][1:]:
            self.assertEqual(due(yard.do, ("drop", "nobody")), (NoName, "nobody"))
            self.assertEqual(due(yard.run, None), (NoDeed, -1))
            self.assertIs(yard.redo(), True)
            self.assertEqual(stood(yard), state)
        self.assertIs(yard.redo(), False)
        yard.undo()
        yard.do(("step", "s", (9,)))
        self.assertIs(yard.redo(), False)
        self.assertEqual(yard.fed("s"), ((1, 9),))


class Hangs(unittest.TestCase):
    """All that is told hangs on a stream's web, lifts, pushed numbers and looks alone."""

    def test_a_number_told_later_is_as_one_pushed_at_once(self):
        luck = luck_of(261)
        for _ in range(30):
            numbers = [luck.randint(0, 3) for _ in range(5)]
            hidden = [luck.random() < 0.5 for _ in range(5)]
            one = streams(*[("step", "s", (None if hide else number,)) for hide, number in zip(hidden, numbers)])
            other = streams(*[("step", "s", (number,)) for number in numbers])
            for at in luck.sample(range(5), 5):
                if hidden[at]:
                    one.do(("tell", "s", 0, at, numbers[at]))
            self.assertEqual(stood(one)[3:], stood(other)[3:])

    def test_looks_have_no_order(self):
        steps = [("step", "s", (None,)), ("step", "s", (None,)), ("step", "s", (None,))]
        looks = [("look", "s", "b", 3), ("look", "s", "a", 5), ("look", "s", "b", 3)]
        yards = [streams(*steps, *order) for order in itertools.permutations(looks)]
        for yard in yards:
            self.assertEqual(yard.can_be("s"), [(None, 3), (None, 3), (5, 5)])
            self.assertEqual([yard.within("s", 0, high) for high in range(7)], [0, 0, 0, 0, 0, 7, 7])

    def test_twins_go_their_own_ways(self):
        yard = streams(("step", "s", (None,)), ("lift", "s", 0, "up"), ("twin", "s", "t"))
        self.assertEqual([getattr(yard, ask)("s") for ask in TELLS[:-1]], [getattr(yard, ask)("t") for ask in TELLS[:-1]])
        before = [getattr(yard, ask)("t") for ask in TELLS[:-1]]
        yard.run([("tell", "s", 0, 0, 4), ("step", "s", (1,)), ("look", "s", "b", 1), ("lift", "s", 0, "down")])
        self.assertEqual([getattr(yard, ask)("t") for ask in TELLS[:-1]], before)
        yard.do(("drop", "s"))
        self.assertEqual([getattr(yard, ask)("t") for ask in TELLS[:-1]], before)

    def test_the_tree_is_that_of_its_looks_and_pushed_numbers(self):
        yard = streams(("step", "s", (None,)), ("step", "s", (3,)), ("look", "s", "b", 2), ("step", "s", (None,)),
                       ("step", "s", (8,)))
        course = yard.course("s")
        self.assertEqual(times_by(HOLD, 2), [2])
        self.assertTrue(equal_kinds(yard.tree("s"), tree_of(course, [(2, "b", 2)], given=[(0, 1, 3)])))
        # What came later is open.
        self.assertTrue(equal_kinds(yard.boxes("s"), [((2, 2), (None, None))]))
        self.assertTrue(equal_kinds(yard.can_be("s"), [(2, 2), (None, None)]))
        self.assertEqual(yard.within("s", 0, 9), 10)
        self.assertEqual(yard.within("s", -10 ** 5000, 2), 10 ** 5000 + 3)
        self.assertEqual(yard.carried("s", "b"), (3, 8))

    def test_hidden_numbers_beyond_those_that_can_be_fed(self):
        yard = streams(("step", "s", (None,)), ("step", "s", (FAR,)), ("look", "s", "b", FAR))
        self.assertEqual(yard.can_be("s"), [(FAR, None)])
        self.assertEqual(yard.within("s", FAR, FAR + 9), 10)

    def test_what_was_fed_is_shown(self):
        yard = streams(("step", "s", (None,)), ("step", "s", (None,)), ("look", "s", "b", 2))
        for numbers in itertools.product(range(5), repeat=2):
            right = shown_by(Course(HOLD), (numbers,), 2, "b") == 2
            self.assertEqual(sum(lies_in(box, numbers) for box in yard.boxes("s")), int(right))
