import inspect
import unittest

from holdgates import bounds, errors
from tests.helper import LINE, anything, equal_kinds, holds_list, lists_of, made_desk

REFUSALS = {
    ValueError: [("NoWeb", "field", "at"), ("NoCourse", "field"), ("NoFeed", "inlet"), ("NoRounds", "inlet"),
                 ("NoBounds", "inlet"), ("NoStand",), ("NoNames", "asked"), ("LikeLane", "lane"),
                 ("OtherInlets",), ("NoKind", "asked"), ("NoSight", "number"), ("NoGiven", "number"),
                 ("NoLook", "look"), ("NoDeed", "nth"), ("NoAsk", "row"), ("Unread", "row")],
    KeyError: [("NoLane", "lane"), ("NoName", "name"), ("NoInput", "inlet", "nth"), ("NoInlet", "inlet"),
               ("NoGate", "gate")],
    LookupError: [("NoToken", "lane"), ("Taken", "name"), ("Needed", "name")],
    IndexError: [("NoBeat", "beat")],
    RuntimeError: [("Jams", "beat"), ("Full", "most"), ("Unseen", "name"), ("Unfit", "name"), ("Hidden", "name")],
    ArithmeticError: [("TooLong", "most"), ("TooMany", "many"), ("Due", "many")],
}
ALL = [(above, getattr(errors, name), fields) for above, rows in REFUSALS.items() for name, *fields in rows]


class Bounds(unittest.TestCase):
    def test_numbers(self):
        told = (bounds.LONGEST, bounds.DEEPEST, bounds.MOST, bounds.STANDS, bounds.INPUTS)
        self.assertTrue(equal_kinds(told, (600, 40, 200, 2000, 12)))


class Errors(unittest.TestCase):
    def test_straight_under(self):
        self.assertEqual(len(ALL), 33)
        for above, refusal, fields in ALL:
            self.assertEqual(refusal.__bases__, (above,), refusal)
            self.assertEqual(refusal.__module__, "holdgates.errors")
            self.assertEqual(list(inspect.signature(refusal).parameters), fields)

    def test_fields_by_places_and_by_names(self):
        for above, refusal, fields in ALL:
            for thing in anything():
                given = [[at, thing] for at, field in enumerate(fields)]
                by_place = refusal(*given)
                by_name = refusal(**{field: worth for field, worth in reversed(list(zip(fields, given)))})
                for field, worth in zip(fields, given):
                    self.assertTrue(equal_kinds(getattr(by_place, field), worth))
                    self.assertTrue(equal_kinds(getattr(by_name, field), worth))
                self.assertEqual(list(vars(by_place)), fields)

    def test_each_thing_itself_is_a_field(self):
        for above, refusal, fields in ALL:
            for thing in anything():
                made = refusal(*[thing for _ in fields])
                for field in fields:
                    self.assertTrue(equal_kinds(getattr(made, field), thing))

    def test_fields_are_copies_all_through(self):
        for above, refusal, fields in ALL:
            for thing in [[1, [2], ([3], {"a": [4]})], {"a": [1], "b": {"c": ([2],)}}, ([1], {"k": {}})]:
                made = refusal(*[thing for _ in fields])
                for field in fields:
                    self.assertFalse(holds_list(getattr(made, field), lists_of(thing)), (refusal, field))

    def test_changed_afterwards(self):
        thing = {"a": [1, {"b": [2]}]}
        made = errors.NoKind(thing)
        thing["a"][1]["b"].append(3)
        thing["c"] = 4
        self.assertEqual(made.asked, {"a": [1, {"b": [2]}]})

    def test_things_of_the_interface_are_fields(self):
        self.assertEqual(errors.NoLane(LINE).lane, LINE)
        self.assertEqual(errors.NoLane([LINE]).lane, [LINE])

    def test_yards_and_desks_are_fields_as_they_stood(self):
        for kind in (errors.NoLane, errors.NoAsk, errors.NoLook, errors.NoDeed):
            desk = made_desk()
            yard = desk.yard()
            made = kind([yard, {"a": (desk,)}])
            told, asked = list(vars(made).values())[0][0], list(vars(made).values())[0][1]["a"][0]
            self.assertTrue(told == yard and asked == desk)
            yard.do(("drop", "b"))
            desk.say("drop b")
            self.assertEqual((told.names(), asked.say("names")), (["a", "b"], "a b"))
            # With what was taken back.
            self.assertEqual((told.redo(), asked.say("redo")), (True, "ok"))

    def test_raised_and_caught(self):
        for above, refusal, fields in ALL:
            with self.assertRaises(above) as caught:
                raise refusal(*range(len(fields)))
            self.assertIs(type(caught.exception), refusal)
            self.assertEqual([getattr(caught.exception, field) for field in fields], list(range(len(fields))))
            self.assertIsInstance(str(caught.exception), str)

    def test_as_many_fields_as_told(self):
        for above, refusal, fields in ALL:
            with self.assertRaises(TypeError):
                refusal(*range(len(fields) + 1))
            if fields:
                with self.assertRaises(TypeError):
                    refusal(*range(len(fields) - 1))
            with self.assertRaises(TypeError):
                refusal(*range(len(fields)), other=1)
