"""What holds of noughts and ones holds of all numbers: answers against runs of other numbers."""

import unittest

from holdgates.alike import alike
from holdgates.blame import blame, would
from holdgates.bones import jam
from holdgates.boxes import boxes, hull
from holdgates.courses import Course
from holdgates.errors import TooLong
from holdgates.feeds import bits, times_by
from holdgates.holds import held, least_hold
from holdgates.kin import mirrored, renamed
from holdgates.kinds import greatest_kind
from holdgates.likes import is_of
from holdgates.plain import plain
from holdgates.ranges import ranges
from holdgates.rises import rises
from holdgates.runs import row_of, run
from holdgates.termlooks import shows_term
from holdgates.terms import term
from holdgates.treelooks import shows_tree
from holdgates.webs import Web
from holdgates.yard import Yard
from holdgates.yardtexts import read_yard, show_yard
from tests.helper import (Cases, are_shown, due, fed_by, leaf_of, lies_in, luck_of, made_course, made_feed_of,
                          made_kinds, made_sightings, made_web, other_of, other_tree, refusal)


def lanes_of(web, feed, beats, lanes):
    rows = run(Course(web), feed, beats)
    return [[row[web.lanes().index(lane)] for lane in lanes] for row in rows]


class Promise(unittest.TestCase):
    def test_bits_run_as_numbers_do(self):
        luck = luck_of(91)
        for _ in range(60):
            web = made_web(luck)
            feed = made_feed_of(luck, web, None, 25)
            beats = 25
            try:
                beats = (jam(Course(web)) or 26) - 1
            except TooLong:
                pass
            beats = min(beats, 25)
            rows = run(Course(web), feed, beats)
            for least in luck.sample([number for row in feed for number in row] or [0], 1) + [0, 5]:
                shown = run(Course(web), bits(web, feed, least), beats)
                self.assertEqual(shown, [tuple(None if token is None else int(token >= least) for token in row)
                                         for row in rows])

    def test_webs_alike_show_the_same_by_all_numbers(self):
        luck, many = luck_of(92), 0
        for _ in range(400):
            web = made_web(luck, luck.randint(1, 4), most=4)
            other, kinds = plain(web), made_kinds(luck, web)
            if web.inlets() != other.inlets() or web == other or refusal(alike, web, other, [], kinds=kinds):
                continue
            couples = [(lane, lane) for lane in web.lanes() if lane in other.lanes()]
            told = alike(web, other, couples, kinds=kinds)
            self.assertEqual(told[0], "alike")
            lanes = [lane for lane, _ in couples]
            for _ in range(5):
                feed = made_feed_of(luck, web, kinds, 40)
                self.assertIs(is_of(web, kinds, feed), True)
                self.assertEqual(lanes_of(web, feed, 40, lanes), lanes_of(other, feed, 40, lanes))
            many += 1
        self.assertTrue(many > 25, many)

    def test_nothing_parts_webs_sooner(self):
        luck, many = luck_of(93), 0
        for _ in range(150):
            web = made_web(luck, luck.randint(1, 4), most=4)
            lanes, kinds = web.lanes(), made_kinds(luck, web)
            couple = (luck.choice(lanes), luck.choice(lanes))
            if refusal(alike, web, web, [couple], kinds=kinds):
                continue
            told = alike(web, web, [couple], kinds=kinds)
            if told[0] == "alike":
                continue
            many += 1
            _, beat, _, feed = told
            one, other = zip(*lanes_of(web, feed, beat, couple))
            self.assertNotEqual(one[-1], other[-1])
            for _ in range(4):
                feed = made_feed_of(luck, web, kinds, beat)
                one, other = zip(*lanes_of(web, feed, beat, couple))
                self.assertEqual(one[:-1], other[:-1])
        self.assertTrue(many > 40)

    def test_lanes_rise_by_all_numbers_of_the_kind(self):
        luck, many = luck_of(94), {"rises": 0, "falls": 0}
        for _ in range(300):
            web = made_web(luck, luck.randint(1, 4), most=5)
            lane = luck.choice(web.lanes())
            kinds = tuple(luck.choice([0, 1, 2]) for _ in web.inlets())
            if refusal(rises, web, lane, kinds=kinds):
                continue
            told = rises(web, lane, kinds=kinds)
            many[told[0]] += 1
            beats = 60 if told[0] == "rises" else told[1] - 1
            for _ in range(4):
                feed = made_feed_of(luck, web, kinds, beats)
                self.assertIs(is_of(web, kinds, feed), True)
                row = row_of(Course(web), feed, beats, lane)
                self.assertEqual(row, sorted(row))
            if told[0] == "falls":
                row = row_of(Course(web), told[2], told[1], lane)
                self.assertEqual(row[-1], 0)
                self.assertIn(1, row)
        self.assertTrue(min(many.values()) > 40, many)

    def test_what_a_least_hold_holds_back_rises_by_all_numbers(self):
        luck, many = luck_of(95), 0
        for _ in range(200):
            web = made_web(luck, luck.randint(0, 3), most=4, inlets=luck.choice([1, 2]))
            lane, kinds = luck.choice(web.outlets()), tuple(luck.choice([0, 1, 2, 3]) for _ in web.inlets())
            if refusal(least_hold, web, lane, kinds=kinds):
                continue
            told = least_hold(web, lane, kinds=kinds)
            if told[0] == "never" or told[1] > 8:
                continue
            many += 1
            for _ in range(5):
                feed = made_feed_of(luck, web, kinds, 60)
                row = row_of(Course(held(web, lane, told[1], "held")), feed, 60, "held")
                self.assertEqual(row, sorted(row))
                # No number has more greater ones ahead of it.
                row = row_of(Course(web), feed, 60, lane)
                ahead = [sum(other > number for other in row[:at]) for at, number in enumerate(row)]
                self.assertTrue(max(ahead, default=0) <= told[1])
        self.assertTrue(many > 40, many)

    def test_all_numbers_rise_by_the_greatest_kind(self):
        luck, many = luck_of(96), 0
        for _ in range(150):
            web = made_web(luck, luck.randint(0, 3), words=("hold", "lag", "deal", "cross"), most=6)
            lane = luck.choice(web.lanes())
            if refusal(greatest_kind, web, lane):
                continue
            kind, _, fall = greatest_kind(web, lane)
            if kind == "never":
                continue
            many += 1
            kinds = (kind,) * len(web.inlets())
            for _ in range(5):
                row = row_of(Course(web), made_feed_of(luck, web, kinds, 60), 60, lane)
                self.assertEqual(row, sorted(row))
            if fall is not None:
                row = row_of(Course(web), fall[2], fall[1], lane)
                self.assertNotEqual(row, sorted(row))
        self.assertTrue(many > 40, many)


def below_nought(things):
    """Numbers below nought for those above it, within tuples too."""
    if isinstance(things, tuple):
        return tuple(below_nought(thing) for thing in things)
    return None if things is None else -things


class Shown(unittest.TestCase):
    """What looks let by is so, whoever wrote it."""

    def test_a_tree_parts_all_feeds(self):
        luck, many = luck_of(97), 0
        for _ in range(250):
            course = made_course(luck, made_web(luck, luck.randint(0, 6), most=6), [0, 1, 2, 4], most=3)
            made = made_sightings(luck, course, inputs=4)
            if made is None:
                continue
            sightings, given, _ = made
            cases = Cases(course, sightings, given)
            tree = other_tree(luck, cases)
            if tree is None:
                continue
            self.assertIs(shows_tree(course, sightings, tree, given=given), True)
            for _ in range(12):
                numbers = {part: luck.choice([luck.randint(-1, 4), luck.randint(-10 ** 12, 10 ** 12)]) for part in cases.inputs}
                feed = fed_by(course.web(), cases.last, {**numbers, **cases.given})
                leaf = leaf_of(tree, numbers)
                if leaf == ("fits",):
                    self.assertTrue(are_shown(course, feed, sightings))
                else:
                    self.assertFalse(are_shown(course, feed, [sightings[leaf[1]]]))
                many += 1
        self.assertTrue(many > 1000, many)

    def test_lists_of_least_and_greatest(self):
        luck, many = luck_of(98), 0
        for _ in range(300):
            course = made_course(luck, made_web(luck, most=6), [0, 1, 2, 4], most=3)
            lane, beat = luck.choice(course.web().lanes()), luck.randint(2, 9)
            if due(term, course, lane, beat) or len(term(course, lane, beat)[0]) > 30:
                continue
            highs, lows = term(course, lane, beat)
            self.assertIs(shows_term(course, lane, beat, (highs, lows)), True)
            for _ in range(4):
                feed = tuple(tuple(luck.randint(-9, 9) for _ in range(times)) for times in times_by(course.web(), beat))
                number = run(course, feed, beat)[-1][course.web().lanes().index(lane)]
                self.assertEqual(max(min(feed[inlet][at] for inlet, at in high) for high in highs), number)
                self.assertEqual(min(max(feed[inlet][at] for inlet, at in low) for low in lows), number)
                many += 1
        self.assertTrue(many > 200, many)


class Mirrored(unittest.TestCase):
    """A mirrored web does with numbers below nought what the web does with them."""

    def test_runs_and_ranges(self):
        luck, many = luck_of(99), 0
        for _ in range(120):
            course = made_course(luck, made_web(luck), [0, 1, 4, 9], most=5)
            other = Course(mirrored(course.web()), lifts=course.lifts())
            feed = made_feed_of(luck, course.web(), None, 20)
            if due(run, course, feed, 20):
                continue
            many += 1
            # A mirrored cross tells its lanes the other way round.
            places = [other.web().lanes().index(lane) for lane in course.web().lanes()]
            rows = [tuple(row[place] for place in places) for row in run(other, below_nought(feed), 20)]
            self.assertEqual(rows, [below_nought(row) for row in run(course, feed, 20)])
            bounds = tuple(tuple((number, number + luck.randint(0, 3)) for number in row) for row in feed)
            turned = tuple(tuple((-high, -low) for low, high in row) for row in bounds)
            rows = [tuple(row[place] for place in places) for row in ranges(other, turned, 20)]
            self.assertEqual(rows, [tuple(span and below_nought(span[::-1]) for span in row)
                                    for row in ranges(course, bounds, 20)])
        self.assertTrue(many > 50, many)

    def test_what_was_seen(self):
        luck, many = luck_of(100), 0
        for _ in range(250):
            course = made_course(luck, made_web(luck, luck.randint(0, 6), most=6), [0, 1, 2, 4], most=3)
            other = Course(mirrored(course.web()), lifts=course.lifts())
            made = made_sightings(luck, course, inputs=3)
            if made is None:
                continue
            sightings, given, _ = made
            turned = [sight[:2] + (-sight[2],) for sight in sightings], [told[:2] + (-told[2],) for told in given]
            found, others = boxes(course, sightings, given=given), boxes(other, turned[0], given=turned[1])
            spans, mirrors = hull(found), hull(others)
            self.assertEqual(mirrors, spans and [below_nought(span[::-1]) for span in spans])
            beat, lane, _ = luck.choice(sightings)
            told = would(course, sightings, (beat, lane), given=given)
            self.assertEqual(would(other, turned[0], (beat, lane), given=turned[1]), told and below_nought(told[::-1]))
            if not found:
                self.assertEqual(blame(other, turned[0], given=turned[1])[0], blame(course, sightings, given=given)[0])
            many += 1
        self.assertTrue(many > 100, many)


class Yards(unittest.TestCase):
    """Whatever is done in a yard, in whatever order, and whatever is taken back."""

    def test_what_was_fed_lies_in_a_box(self):
        for seed in range(60):
            luck, yard, fed = luck_of(seed + 3100), Yard(), []
            web = made_web(luck, luck.randint(0, 5), most=6, inlets=luck.choice([1, 1, 2]))
            yard.run([("web", "w", web), ("stream", "s", "w")])
            # All that was ever fed by beat and inlet, also what is taken back: what comes there again is the same.
            for _ in range(40):
                self.does(luck, yard, fed)
                self.agree(yard, fed)

    def does(self, luck, yard, fed):
        name = luck.choice(["s", "t"] if "t" in yard.names() else ["s"] if "s" in yard.names() else ["w"])
        turn = luck.random()
        if turn < 0.15:
            yard.undo()
        elif turn < 0.3:
            yard.redo()
        elif name == "w":
            due(yard.do, ("stream", "s", "w"))
        elif turn < 0.4:
            due(yard.do, luck.choice([("twin", name, "t"), ("drop", "t"), ("lift", name, luck.randint(0, 3), "up")]))
        elif turn < 0.45:
            web = yard.course(name).web()
            due(yard.do, ("change", "w", luck.choice([other_of(luck, web), plain(web)])))
        elif turn < 0.7:
            beat = yard.now(name)
            while len(fed) <= beat:
                fed.append([luck.randint(-3, 3) for _ in range(3)])
            due(yard.do, ("step", name, tuple(luck.choice([None, fed[beat][inlet]]) for inlet in yard.due(name))))
        elif turn < 0.8 and yard.hidden(name):
            inlet, nth = luck.choice(yard.hidden(name))
            due(yard.do, ("tell", name, inlet, nth, self.rows(yard, name, fed)[inlet][nth]))
        elif yard.now(name):
            course = yard.course(name)
            tokens = run(course, self.rows(yard, name, fed), yard.now(name))[-1]
            lane, token = luck.choice(list(zip(course.web().lanes(), tokens)))
            if token is not None:
                due(yard.do, ("look", name, lane, token))

    def rows(self, yard, name, fed):
        """What was fed to a stream, hidden or not."""
        rows = [[] for _ in yard.fed(name)]
        for beat in range(yard.now(name)):
            for inlet, (_, rhythm) in enumerate(yard.course(name).web().inlets()):
                if rhythm[beat % len(rhythm)] == "x":
                    rows[inlet].append(fed[beat][inlet])
        return tuple(map(tuple, rows))

    def agree(self, yard, fed):
        for name in yard.names():
            if due(yard.now, name):
                continue
            rows, course = self.rows(yard, name, fed), yard.course(name)
            # Behind a change the looks are told of another web, by which they need not be what came.
            if not are_shown(course, rows, yard.looks(name)):
                continue
            numbers = {part: rows[part[0]][part[1]] for part in yard.hidden(name)}
            self.assertEqual(sum(lies_in(box, list(numbers.values())) for box in yard.boxes(name)), 1)
            self.assertEqual(leaf_of(yard.tree(name), numbers), ("fits",))
            for lane, token in zip(course.web().lanes(), (run(course, rows, yard.now(name)) or [()])[-1]):
                span = yard.carried(name, lane)
                self.assertEqual(span is None, token is None)
                if token is not None:
                    self.assertTrue(lies_in((span,), (token,)))

    def test_a_web_that_shows_the_same_in_anothers_place(self):
        luck, many = luck_of(101), 0
        for _ in range(120):
            web = made_web(luck, luck.randint(1, 5), most=6, inlets=1)
            other = plain(web)
            lanes = [lane for lane in web.lanes() if lane in other.lanes()]
            if other == web or [rhythm for _, rhythm in other.inlets()] != [rhythm for _, rhythm in web.inlets()]:
                continue
            yard = Yard()
            yard.run([("web", "w", web), ("stream", "s", "w")])
            for _ in range(luck.randint(4, 12)):
                due(yard.do, ("step", "s", tuple(luck.choice([None, luck.randint(0, 4)]) for _ in yard.due("s"))))
                lane = luck.choice(lanes)
                if yard.now("s") and yard.carried("s", lane) is not None:
                    ends = [end for end in yard.carried("s", lane) if end is not None]
                    due(yard.do, ("look", "s", lane, luck.choice(ends or [2])))
            before = self.told(yard, lanes)
            if due(yard.do, ("change", "w", other)):
                continue
            many += 1
            self.assertEqual(self.told(yard, lanes), before)
        self.assertTrue(many > 30, many)

    def told(self, yard, lanes):
        """What is told of a stream's hidden numbers, and of lanes."""
        beats = range(1, yard.now("s") + 1)
        return (yard.can_be("s"), [yard.within("s", 0, high) for high in range(6)],
                [yard.carried("s", lane, beat=beat) for beat in beats for lane in lanes])

    def test_other_names_of_lanes(self):
        web = Web([("a", "x")], [("hold", "a", "b", 2, 1)])
        yard = Yard()
        yard.run([("web", "w", web), ("stream", "s", "w"), ("lift", "s", 0, "down"), ("step", "s", (None,)), ("step", "s", (4,)),
                  ("step", "s", (None,))])
        yard.do(("change", "w", renamed(web, {"a": "b", "b": "a"})))
        self.assertEqual((yard.carried("s", "b", beat=2), yard.carried("s", "a")), ((4, 4), (None, None)))

    def test_read_yards_do_as_those_that_were_written(self):
        for seed in range(20):
            luck, yard, fed = luck_of(seed + 3200), Yard(), []
            yard.run([("web", "w", made_web(luck, 2, most=4, inlets=1)), ("stream", "s", "w")])
            for _ in range(30):
                self.does(luck, yard, fed)
            other = read_yard(show_yard(yard))
            deeds = [("step", "s", (None,)), ("step", "s", ()), ("twin", "s", "u"), ("drop", "w"), ("look", "s", "a", 1)]
            for deed in deeds + yard.deeds()[-3:]:
                self.assertEqual(due(yard.do, deed), due(other.do, deed))
            self.assertTrue(yard == other)
            self.assertEqual(show_yard(yard), show_yard(other))
