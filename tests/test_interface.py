import ast
import importlib
import inspect
import pathlib
import unittest

from holdgates.courses import Course
from holdgates.desk import Desk
from holdgates.terms import term
from holdgates.trees import tree_of
from holdgates.webs import Web
from holdgates.yard import Yard
from tests.helper import equal_kinds

PACKAGE = pathlib.Path(__file__).resolve().parent.parent / "holdgates"

# Each function of the interface, by its file, with the names of its arguments.
FUNCTIONS = {
    "names": ["is_name(thing)", "is_rhythm(thing)", "takes(rhythm, beat)", "times_of(rhythm, beat)",
              "beat_of(rhythm, number)"],
    "feeds": ["is_feed(web, thing)", "inputs(web, beat)", "cut(web, feed, beat)", "bits(web, feed, least)",
              "is_endless(web, feed, beat)"],
    "runs": ["run(course, feed, beats)", "row_of(course, feed, beats, lane)"],
    "stands": ["first_stand(web)", "stand(course, feed, beats)", "is_stand(web, thing)", "left(web, feed, beat)",
               "go_on(course, stand, feed, beats)"],
    "far": ["is_rounds(web, thing)", "far_carried(course, rounds, beat)", "far_stand(course, rounds, beat)",
            "far_round(course, rounds)", "far_nth(course, rounds, lane, number)",
            "far_parted(course, rounds, other, lane)"],
    "bones": ["jam(course)", "round_of(course)", "carries(course, lane, beat)", "carried(course, lane, beat)",
              "kept(course, gate, beat)", "beat_at(course, lane, number)", "shape(course, lane)",
              "parted(course, other, lanes)"],
    "plain": ["plain(web)", "is_plain(web)"],
    "kin": ["renamed(web, names)", "mirrored(web)", "beside(one, other)", "behind(one, other, names)",
            "pruned(web, lanes)"],
    "smalls": ["first_small(web)", "choices(web, small)", "small_next(web, small, choice)"],
    "likes": ["is_of(web, kinds, feed)"],
    "alike": ["alike(one, other, couples, *, kinds=None)"],
    "rises": ["rises(web, lane, *, kinds=None)"],
    "alikelooks": ["shows_alike(one, other, couples, thing, *, kinds=None)"],
    "riselooks": ["shows_rises(web, lane, thing, *, kinds=None)"],
    "machines": ["machine(web, lanes)"],
    "kinds": ["greatest_kind(web, lane)", "greatest_at(web, lane, inlet, *, kinds=None)",
              "shows_greatest(web, lane, thing)", "shows_greatest_at(web, lane, inlet, thing, *, kinds=None)"],
    "holds": ["least_hold(web, lane, *, kinds=None)", "shows_hold(web, lane, thing, *, kinds=None)",
              "held(web, lane, most, out)"],
    "terms": ["hangs_on(course, lane, beat)", "term(course, lane, beat)", "by_term(highs, feed)",
              "can_come(highs)"],
    "termlooks": ["shows_term(course, lane, beat, thing)"],
    "ranges": ["ranges(course, bounds, beats)", "reached(course, bounds, beat, lane, number)",
               "stays(course, bounds, beats, lane, low, high)", "far_range(course, rounds, beat)"],
    "trees": ["inputs_of(course, sightings, *, given=())", "tree_of(course, sightings, *, given=())"],
    "treelooks": ["shows_tree(course, sightings, thing, *, given=())"],
    "boxes": ["boxes(course, sightings, *, given=())", "has(found, numbers)", "within(found, low, high)", "hull(found)"],
    "blame": ["blame(course, sightings, *, given=())", "shows_blame(course, sightings, thing, *, given=())",
              "would(course, sightings, look, *, given=())"],
    "deeds": ["is_deed(thing)"],
    "texts": ["show_web(web)", "show_course(course)", "show_feed(feed)", "read_web(text)", "read_course(text)",
              "read_feed(web, text)"],
    "yardtexts": ["show_yard(yard)", "read_yard(text)"],
}
CLASSES = {
    "webs": ("Web(inlets, gates=())", ["inlets()", "gates()", "lanes()", "outlets()", "common()", "sources(lane)",
                                       "needed(lane)", "__eq__(other)", "__len__()"]),
    "courses": ("Course(web, *, lifts=())", ["web()", "lifts()", "is_lifted(gate, beat)", "__eq__(other)"]),
    "yard": ("Yard()", [
        "do(deed)", "run(deeds)", "undo()", "redo()", "names()", "web(name)", "of(name)", "course(name)", "now(name)",
        "due(name)", "hidden(name)", "looks(name)", "fed(name)", "boxes(name)", "within(name, low, high)", "can_be(name)",
        "carried(name, lane, *, beat=None)", "tree(name)", "stand(name)", "deeds()", "__eq__(other)", "__len__()"]),
    "desk": ("Desk()", ["say(row)", "yard()"]),
}

WEB = Web([("a", "x"), ("b", "xx-")], [("hold", "a", "c", 1, 0), ("cross", "b", "c", "d", "e")])
OTHER = Web([("f", "x")], [("wait", "f", "g", 1)])
COURSE = Course(WEB, lifts=[(1, 0, "up")])
FEED, NOUGHTS, ROUNDS = ((5, 3, 4), (7, 8)), ((0, 0, 1), (1, 0)), (((5,), (3, 4)), ((), (1, 2)))
BOUNDS, TURNS = (((1, 5), (3, 4)), ((0, 9), (2, 2))), (((), ((1, 5),)), (((0, 9),), ((2, 2),)))
SIGHTS, GIVEN, TERM = [(2, "d", 4)], [(0, 0, 5), (1, 0, 7)], term(COURSE, "d", 2)
# For each function some arguments, in order.
EXAMPLES = {
    "is_name": ["a"], "is_rhythm": ["x"], "takes": ["x-", 3], "times_of": ["x-", 9], "beat_of": ["x-", 4],
    "is_feed": [WEB, FEED], "inputs": [WEB, 3], "cut": [WEB, FEED, 2], "bits": [WEB, FEED, 5],
    "is_endless": [WEB, FEED, 2], "run": [COURSE, FEED, 3], "row_of": [COURSE, FEED, 3, "e"], "first_stand": [WEB],
    "stand": [COURSE, FEED, 2], "is_stand": [WEB, (2, ((5,), ()))], "left": [WEB, FEED, 1],
    "go_on": [COURSE, (1, ((5,), ())), ((3, 4), (8,)), 2], "is_rounds": [WEB, ROUNDS],
    "far_carried": [COURSE, ROUNDS, 99], "far_stand": [COURSE, ROUNDS, 99], "far_round": [COURSE, ROUNDS],
    "far_nth": [COURSE, ROUNDS, "e", 9], "far_parted": [COURSE, ROUNDS, (((), (3,)), ((), (1,))), "e"],
    "jam": [COURSE], "round_of": [COURSE], "carries": [COURSE, "e", 9], "carried": [COURSE, "e", 9],
    "kept": [COURSE, 0, 9], "beat_at": [COURSE, "d", 9], "shape": [COURSE, "b"],
    "parted": [COURSE, Course(WEB), ["a", "c"]], "plain": [WEB], "is_plain": [WEB],
    "renamed": [OTHER, {"f": "p", "g": "q"}], "mirrored": [WEB], "beside": [WEB, OTHER],
    "behind": [WEB, OTHER, {"f": "d"}], "pruned": [WEB, ["c"]], "first_small": [WEB], "choices": [WEB, (0, ((), ()))],
    "small_next": [WEB, (0, ((), ())), (0, 1)], "is_of": [WEB, (1, None), FEED],
    "alike": [OTHER, OTHER, [("f", "g")]], "rises": [OTHER, "g"],
    "shows_alike": [OTHER, OTHER, [("f", "g")], ("alike", [])], "shows_rises": [OTHER, "g", ("rises", [])],
    "machine": [OTHER, ["g"]], "greatest_kind": [OTHER, "g"], "greatest_at": [OTHER, "g", 0],
    "shows_greatest": [OTHER, "g", (0, None, None)], "shows_greatest_at": [OTHER, "g", 0, (0, None, None)],
    "least_hold": [OTHER, "g"], "shows_hold": [OTHER, "g", ("hold", 0)], "held": [OTHER, "g", 2, "h"],
    "hangs_on": [COURSE, "d", 2], "term": [COURSE, "d", 2], "by_term": [TERM[0], FEED], "can_come": [TERM[0]],
    "shows_term": [COURSE, "d", 2, TERM], "ranges": [COURSE, BOUNDS, 2], "reached": [COURSE, BOUNDS, 1, "a", 3],
    "stays": [COURSE, BOUNDS, 2, "a", 2, 9], "far_range": [COURSE, TURNS, 99], "inputs_of": [COURSE, SIGHTS],
    "tree_of": [COURSE, SIGHTS], "shows_tree": [COURSE, SIGHTS, tree_of(COURSE, SIGHTS)], "boxes": [COURSE, SIGHTS],
    "has": [[((1, 5), (None, 2))], (1, 1)], "within": [[((1, 5), (None, 2))], 0, 9], "hull": [[((1, 5), (None, 2))]],
    "blame": [COURSE, SIGHTS + [(2, "b", 3)]], "shows_blame": [COURSE, SIGHTS, None],
    "would": [COURSE, SIGHTS, (2, "e")], "is_deed": [("drop", "a")], "show_web": [WEB], "show_course": [COURSE],
    "show_feed": [FEED], "read_web": ["inlet a x"], "read_course": ["inlet a x"], "read_feed": [OTHER, "1 2"],
    "show_yard": [Yard()], "read_yard": ["web w\ninlet a x"],
}
# What may be handed in by its name alone.
NAMED = {"kinds": (1,), "given": GIVEN}


def defined(file):
    """The functions and classes that a file of the package defines, by name."""
    tree = ast.parse((PACKAGE / f"{file}.py").read_text())
    return {node.name: node for node in tree.body if isinstance(node, (ast.FunctionDef, ast.ClassDef))}


class Interface(unittest.TestCase):
    def test_functions(self):
        for file, told in FUNCTIONS.items():
            module = importlib.import_module(f"holdgates.{file}")
            for text in told:
                name = text.split("(")[0]
                self.assertIsInstance(defined(file)[name], ast.FunctionDef)
                self.assertEqual(name + str(inspect.signature(getattr(module, name))), text)

    def test_classes_with_their_own_methods(self):
        for file, (text, methods) in CLASSES.items():
            module = importlib.import_module(f"holdgates.{file}")
            name = text.split("(")[0]
            made = getattr(module, name)
            self.assertEqual(name + str(inspect.signature(made)), text)
            own = {node.name for node in defined(file)[name].body if isinstance(node, ast.FunctionDef)}
            for method in methods:
                self.assertIn(method.split("(")[0], own)
                told = inspect.signature(getattr(made, method.split("(")[0]))
                rest = told.replace(parameters=list(told.parameters.values())[1:])
                self.assertEqual(f"{method.split('(')[0]}{rest}", method)

    def test_the_folder_holds_nothing_else(self):
        for path in PACKAGE.iterdir():
            if path.name != "__pycache__":
                self.assertEqual(path.suffix, ".py", path)
        self.assertTrue((PACKAGE / "__init__.py").exists())

    def test_all_arguments_by_their_names_in_another_order(self):
        asked = {}
        for file, told in FUNCTIONS.items():
            module = importlib.import_module(f"holdgates.{file}")
            for text in told:
                name = text.split("(")[0]
                ask, given = getattr(module, name), EXAMPLES[name]
                plain = [key for key, part in inspect.signature(ask).parameters.items() if part.kind is not part.KEYWORD_ONLY]
                self.assertEqual(len(plain), len(given))
                named = dict(reversed(list(zip(plain, given))))
                right = ask(*given)
                self.assertTrue(equal_kinds(ask(**named), right), name)
                self.assertTrue(equal_kinds(ask(*given[:1], **{key: named[key] for key in plain[1:]}), right), name)
                for key, thing in NAMED.items():
                    if f"*, {key}=" in text:
                        self.assertEqual(ask(**{key: thing}, **named), ask(*given, **{key: thing}))
                        with self.assertRaises(TypeError):
                            ask(*given, thing)
                asked[name] = True
        self.assertEqual(set(asked), set(EXAMPLES))

    def test_all_arguments_of_methods_by_their_names(self):
        self.assertEqual(Web(gates=WEB.gates(), inlets=WEB.inlets()), WEB)
        self.assertEqual(Course(lifts=COURSE.lifts(), web=WEB), COURSE)
        self.assertEqual((WEB.sources(lane="d"), WEB.needed(lane="d"), COURSE.is_lifted(beat=2, gate=0)), ([0, 1], [0, 1], True))
        yard = Yard()
        yard.do(deed=("web", "w", WEB))
        yard.run(deeds=[("stream", "s", "w"), ("step", "s", (None, 3))])
        self.assertEqual(yard.web(name="w"), WEB)
        for ask in ("of", "course", "now", "due", "hidden", "looks", "fed", "boxes", "can_be", "tree"):
            self.assertTrue(equal_kinds(getattr(yard, ask)(name="s"), getattr(yard, ask)("s")))
        self.assertEqual(yard.within(high=4, low=1, name="s"), 4)
        self.assertEqual(yard.carried(beat=1, lane="b", name="s"), (3, 3))
        yard.do(deed=("tell", "s", 0, 0, 1))
        self.assertEqual(yard.stand(name="s"), yard.stand("s"))
        desk = Desk()
        self.assertEqual(desk.say(row="names"), "none")
