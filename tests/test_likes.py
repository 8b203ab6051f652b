import itertools
import unittest

from holdgates.errors import NoFeed, NoKind
from holdgates.likes import is_of
from holdgates.webs import Web
from tests.helper import LINE, anything, equal_kinds, luck_of, unchanged

TWO = Web([("a", "x"), ("b", "x-")], [("cross", "a", "b", "c", "d")])


def is_row(kind, row):
    """By the document's words, number by number."""
    return kind is None or all(row[at] >= row[ahead] for at in range(len(row)) for ahead in range(at - kind))


def is_kind(thing):
    return thing is None or (type(thing) is int and 0 <= thing <= 8)


class IsOf(unittest.TestCase):
    def test_one_inlet(self):
        for kind, row, due in [
                (0, (), True), (0, (5,), True), (0, (1, 1, 2), True), (0, (2, 1), False), (0, (-3, -3, -2, -3), False), (0, (-3, -3, -2), True),
                (1, (2, 1), True), (1, (2, 1, 2), True), (1, (2, 1, 1), False), (1, (2, 2, 1), False),
                (1, (1, 3, 2, 4, 3, 5), True), (2, (3, 2, 1), True), (2, (3, 2, 2), True), (2, (4, 9, 9, 3), False),
                (2, (4, 9, 9, 4), True), (3, (5, 5, 5, 4), True), (3, (5, 4, 4, 4, 4), False), (3, (6, 0, 0, 0, 6), True),
                (3, (6, 0, 0, 0, 5), False), (8, (9,) + (0,) * 8, True), (8, (9,) + (0,) * 9, False),
                (8, (9,) + (0,) * 8 + (9, 1), False), (8, (9,) + (0,) * 8 + (9, 12, 9), True), (8, (9,) + (0,) * 8 + (8,), False),
                (None, (9,) + (0,) * 1000, True), (None, (), True)]:
            self.assertIs(is_of(LINE, (kind,), (row,)), due, (kind, row))
            self.assertIs(is_of(LINE, [kind], [row]), due)
        self.assertIs(is_of(web=LINE, kinds=None, feed=((3, 2, 1) * 30,)), True)

    def test_far_apart(self):
        for kind in range(9):
            row = (1,) + (0,) * kind + (1,) * (1990 - kind)
            self.assertIs(is_of(LINE, (kind,), (row,)), True)
            self.assertIs(is_of(LINE, (kind,), (row + (0,),)), False)
            self.assertIs(is_of(LINE, (kind,), (row + (1,),)), True)

    def test_several_inlets(self):
        up, down = (1, 2, 3), (3, 1, 1)
        self.assertIs(is_of(TWO, (0, None), (up, down)), True)
        self.assertIs(is_of(TWO, (None, 0), (up, down)), False)
        self.assertIs(is_of(TWO, (None, 2), (up, down)), True)
        self.assertIs(is_of(TWO, (0, 1), (up, down)), False)
        self.assertIs(is_of(TWO, (0, 2), (up, down)), True)
        self.assertIs(is_of(TWO, (1, 2), (down, up)), False)
        self.assertIs(is_of(TWO, None, (down, down)), True)

    def test_all_short_rows(self):
        for length in range(6):
            for row in itertools.product((0, 1, 2), repeat=length):
                for kind in (0, 1, 2, 3, 4, None):
                    self.assertIs(is_of(LINE, (kind,), (row,)), is_row(kind, row))

    def test_rows_by_luck(self):
        luck, many = luck_of(62), {True: 0, False: 0}
        for _ in range(2000):
            rows = []
            for _ in range(2):
                wide = luck.choice([0, 1, 2, 4, 9])
                rows.append(tuple(at + luck.randint(0, wide) for at in range(luck.randint(0, 14))))
            kinds = tuple(luck.choice([None, *range(9)]) for _ in range(2))
            due = is_row(kinds[0], rows[0]) and is_row(kinds[1], rows[1])
            self.assertIs(unchanged(is_of, TWO, kinds, tuple(rows)), due)
            many[due] += 1
        self.assertTrue(min(many.values()) > 300)

    def test_just_where_its_bits_are(self):
        luck = luck_of(63)
        for _ in range(300):
            row = tuple(luck.randint(0, 5) for _ in range(luck.randint(1, 8)))
            for kind in range(4):
                bits = [is_of(LINE, (kind,), (tuple(int(number >= v) for number in row),)) for v in range(7)]
                self.assertIs(is_of(LINE, (kind,), (row,)), all(bits))


class Refused(unittest.TestCase):
    def check_no_kind(self, web, thing, feed):
        with self.assertRaises(NoKind) as caught:
            is_of(web, thing, feed)
        self.assertIs(type(caught.exception), NoKind)
        self.assertTrue(equal_kinds(caught.exception.asked, thing))

    def test_no_kind_of_anything_ahead_of_no_feed(self):
        for thing in anything() + [(9,), (-1,), (True,), (0.5,), (1, 2), ((1,),), ([1],), 8, {0: 1}]:
            if isinstance(thing, (list, tuple)) and len(thing) == 1 and is_kind(thing[0]) or thing is None:
                with self.assertRaises(NoFeed):
                    is_of(LINE, thing, None)
                continue
            self.check_no_kind(LINE, thing, ((1,),))
            self.check_no_kind(LINE, thing, None)
        for thing in anything():
            if not is_kind(thing):
                for kinds in [(thing, 1), (None, thing), [thing, thing], [0, thing]]:
                    self.check_no_kind(TWO, kinds, ((1,), ()))
                    self.check_no_kind(TWO, kinds, thing)

    def test_0_to_8(self):
        for kind in [None, *range(9)]:
            self.assertIs(is_of(LINE, (kind,), ((1, 1),)), True)
        for kind in [-1, 9, 10 ** 60]:
            self.check_no_kind(LINE, (kind,), ((),))

    def test_another_count(self):
        for kinds in [(), (1,), (1, 1, 1), (None,), (None, None, None), []]:
            self.check_no_kind(TWO, kinds, ((), ()))

    def test_no_feed_of_anything(self):
        for thing in anything():
            if isinstance(thing, (list, tuple)) and len(thing) == 1 and thing[0] in ((), (1,)):
                continue
            for kinds in [None, (None,), (3,)]:
                with self.assertRaises(NoFeed) as caught:
                    is_of(LINE, kinds, thing)
                self.assertIs(type(caught.exception), NoFeed)
        with self.assertRaises(NoFeed) as caught:
            is_of(TWO, (1, 1), ((1,), [1]))
        self.assertTrue(equal_kinds(caught.exception.inlet, 1))

    def test_what_is_refused_is_told_as_a_copy(self):
        kinds = [[1]]
        with self.assertRaises(NoKind) as caught:
            is_of(LINE, kinds, ((),))
        kinds[0].append(2)
        self.assertEqual(caught.exception.asked, [[1]])
