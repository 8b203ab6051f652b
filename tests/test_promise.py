"""What holds of noughts and ones holds of all numbers: answers against runs of other numbers."""

import unittest

from holdgates.alike import alike
from holdgates.bones import jam
from holdgates.courses import Course
from holdgates.errors import TooLong
from holdgates.feeds import bits
from holdgates.holds import held, least_hold
from holdgates.kinds import greatest_kind
from holdgates.likes import is_of
from holdgates.plain import plain
from holdgates.rises import rises
from holdgates.runs import row_of, run
from tests.helper import luck_of, made_feed_of, made_kinds, made_web, refusal


def lanes_of(web, feed, beats, lanes):
    rows = run(Course(web), feed, beats)
    return [[row[web.lanes().index(lane)] for lane in lanes] for row in rows]


class Promise(unittest.TestCase):
    def test_bits_run_as_numbers_do(self):
        luck = luck_of(91)
        for _ in range(60):
            web = made_web(luck)
            feed = made_feed_of(luck, web, None, 25)
            beats = 25
            try:
                beats = (jam(Course(web)) or 26) - 1
            except TooLong:
                pass
            beats = min(beats, 25)
            rows = run(Course(web), feed, beats)
            for least in luck.sample([number for row in feed for number in row] or [0], 1) + [0, 5]:
                shown = run(Course(web), bits(web, feed, least), beats)
                self.assertEqual(shown, [tuple(None if token is None else int(token >= least) for token in row)
                                         for row in rows])

    def test_webs_alike_show_the_same_by_all_numbers(self):
        luck, many = luck_of(92), 0
        for _ in range(400):
            web = made_web(luck, luck.randint(1, 4), most=4)
            other, kinds = plain(web), made_kinds(luck, web)
            if web.inlets() != other.inlets() or web == other or refusal(alike, web, other, [], kinds=kinds):
                continue
            couples = [(lane, lane) for lane in web.lanes() if lane in other.lanes()]
            told = alike(web, other, couples, kinds=kinds)
            self.assertEqual(told[0], "alike")
            lanes = [lane for lane, _ in couples]
            for _ in range(5):
                feed = made_feed_of(luck, web, kinds, 40)
                self.assertIs(is_of(web, kinds, feed), True)
                self.assertEqual(lanes_of(web, feed, 40, lanes), lanes_of(other, feed, 40, lanes))
            many += 1
        self.assertTrue(many > 25, many)

    def test_nothing_parts_webs_sooner(self):
        luck, many = luck_of(93), 0
        for _ in range(150):
            web = made_web(luck, luck.randint(1, 4), most=4)
            lanes, kinds = web.lanes(), made_kinds(luck, web)
            couple = (luck.choice(lanes), luck.choice(lanes))
            if refusal(alike, web, web, [couple], kinds=kinds):
                continue
            told = alike(web, web, [couple], kinds=kinds)
            if told[0] == "alike":
                continue
            many += 1
            _, beat, _, feed = told
            one, other = zip(*lanes_of(web, feed, beat, couple))
            self.assertNotEqual(one[-1], other[-1])
            for _ in range(4):
                feed = made_feed_of(luck, web, kinds, beat)
                one, other = zip(*lanes_of(web, feed, beat, couple))
                self.assertEqual(one[:-1], other[:-1])
        self.assertTrue(many > 40)

    def test_lanes_rise_by_all_numbers_of_the_kind(self):
        luck, many = luck_of(94), {"rises": 0, "falls": 0}
        for _ in range(300):
            web = made_web(luck, luck.randint(1, 4), most=5)
            lane = luck.choice(web.lanes())
            kinds = tuple(luck.choice([0, 1, 2]) for _ in web.inlets())
            if refusal(rises, web, lane, kinds=kinds):
                continue
            told = rises(web, lane, kinds=kinds)
            many[told[0]] += 1
            beats = 60 if told[0] == "rises" else told[1] - 1
            for _ in range(4):
                feed = made_feed_of(luck, web, kinds, beats)
                self.assertIs(is_of(web, kinds, feed), True)
                row = row_of(Course(web), feed, beats, lane)
                self.assertEqual(row, sorted(row))
            if told[0] == "falls":
                row = row_of(Course(web), told[2], told[1], lane)
                self.assertEqual(row[-1], 0)
                self.assertIn(1, row)
        self.assertTrue(min(many.values()) > 40, many)

    def test_what_a_least_hold_holds_back_rises_by_all_numbers(self):
        luck, many = luck_of(95), 0
        for _ in range(200):
            web = made_web(luck, luck.randint(0, 3), most=4, inlets=luck.choice([1, 2]))
            lane, kinds = luck.choice(web.outlets()), tuple(luck.choice([0, 1, 2, 3]) for _ in web.inlets())
            if refusal(least_hold, web, lane, kinds=kinds):
                continue
            told = least_hold(web, lane, kinds=kinds)
            if told[0] == "never" or told[1] > 8:
                continue
            many += 1
            for _ in range(5):
                feed = made_feed_of(luck, web, kinds, 60)
                row = row_of(Course(held(web, lane, told[1], "held")), feed, 60, "held")
                self.assertEqual(row, sorted(row))
                # No number has more greater ones ahead of it.
                row = row_of(Course(web), feed, 60, lane)
                ahead = [sum(other > number for other in row[:at]) for at, number in enumerate(row)]
                self.assertTrue(max(ahead, default=0) <= told[1])
        self.assertTrue(many > 40, many)

    def test_all_numbers_rise_by_the_greatest_kind(self):
        luck, many = luck_of(96), 0
        for _ in range(150):
            web = made_web(luck, luck.randint(0, 3), words=("hold", "lag", "deal", "cross"), most=6)
            lane = luck.choice(web.lanes())
            if refusal(greatest_kind, web, lane):
                continue
            kind, _, fall = greatest_kind(web, lane)
            if kind == "never":
                continue
            many += 1
            kinds = (kind,) * len(web.inlets())
            for _ in range(5):
                row = row_of(Course(web), made_feed_of(luck, web, kinds, 60), 60, lane)
                self.assertEqual(row, sorted(row))
            if fall is not None:
                row = row_of(Course(web), fall[2], fall[1], lane)
                self.assertNotEqual(row, sorted(row))
        self.assertTrue(many > 40, many)
