import ast
import importlib
import inspect
import pathlib
import unittest

PACKAGE = pathlib.Path(__file__).resolve().parent.parent / "holdgates"

# Each function of the interface, by its file, with the names of its arguments.
FUNCTIONS = {
    "names": ["is_name(thing)", "is_rhythm(thing)", "takes(rhythm, beat)", "times_of(rhythm, beat)",
              "beat_of(rhythm, number)"],
    "feeds": ["is_feed(web, thing)", "inputs(web, beat)", "cut(web, feed, beat)", "bits(web, feed, least)",
              "is_endless(web, feed, beat)"],
    "runs": ["run(course, feed, beats)", "row_of(course, feed, beats, lane)"],
    "stands": ["first_stand(web)", "stand(course, feed, beats)", "is_stand(web, thing)", "left(web, feed, beat)",
               "go_on(course, stand, feed, beats)"],
    "far": ["is_rounds(web, thing)", "far_carried(course, rounds, beat)", "far_stand(course, rounds, beat)",
            "far_round(course, rounds)", "far_nth(course, rounds, lane, number)",
            "far_parted(course, rounds, other, lane)"],
    "bones": ["jam(course)", "round_of(course)", "carries(course, lane, beat)", "carried(course, lane, beat)",
              "kept(course, gate, beat)", "beat_at(course, lane, number)", "shape(course, lane)",
              "parted(course, other, lanes)"],
    "plain": ["plain(web)", "is_plain(web)"],
    "kin": ["renamed(web, names)", "mirrored(web)", "beside(one, other)", "behind(one, other, names)",
            "pruned(web, lanes)"],
    "smalls": ["first_small(web)", "choices(web, small)", "small_next(web, small, choice)"],
    "likes": ["is_of(web, kinds, feed)"],
    "alike": ["alike(one, other, couples, *, kinds=None)"],
    "rises": ["rises(web, lane, *, kinds=None)"],
    "alikelooks": ["shows_alike(one, other, couples, thing, *, kinds=None)"],
    "riselooks": ["shows_rises(web, lane, thing, *, kinds=None)"],
    "machines": ["machine(web, lanes)"],
    "kinds": ["greatest_kind(web, lane)", "greatest_at(web, lane, inlet, *, kinds=None)",
              "shows_greatest(web, lane, thing)", "shows_greatest_at(web, lane, inlet, thing, *, kinds=None)"],
    "holds": ["least_hold(web, lane, *, kinds=None)", "shows_hold(web, lane, thing, *, kinds=None)",
              "held(web, lane, most, out)"],
    "terms": ["hangs_on(course, lane, beat)", "term(course, lane, beat)", "by_term(highs, feed)",
              "can_come(highs)"],
}
CLASSES = {
    "webs": ("Web(inlets, gates=())", ["inlets()", "gates()", "lanes()", "outlets()", "common()", "sources(lane)",
                                       "needed(lane)", "__eq__(other)", "__len__()"]),
    "courses": ("Course(web, *, lifts=())", ["web()", "lifts()", "is_lifted(gate, beat)", "__eq__(other)"]),
}


def defined(file):
    """The functions and classes that a file of the package defines, by name."""
    tree = ast.parse((PACKAGE / f"{file}.py").read_text())
    return {node.name: node for node in tree.body if isinstance(node, (ast.FunctionDef, ast.ClassDef))}


class Interface(unittest.TestCase):
    def test_functions(self):
        for file, told in FUNCTIONS.items():
            module = importlib.import_module(f"holdgates.{file}")
            for text in told:
                name = text.split("(")[0]
                self.assertIsInstance(defined(file)[name], ast.FunctionDef)
                self.assertEqual(name + str(inspect.signature(getattr(module, name))), text)

    def test_classes_with_their_own_methods(self):
        for file, (text, methods) in CLASSES.items():
            module = importlib.import_module(f"holdgates.{file}")
            name = text.split("(")[0]
            made = getattr(module, name)
            self.assertEqual(name + str(inspect.signature(made)), text)
            own = {node.name for node in defined(file)[name].body if isinstance(node, ast.FunctionDef)}
            for method in methods:
                self.assertIn(method.split("(")[0], own)
                told = inspect.signature(getattr(made, method.split("(")[0]))
                rest = list(told.parameters)[1:]
                self.assertEqual(f"{method.split('(')[0]}({', '.join(rest)})", method)

    def test_the_folder_holds_nothing_else(self):
        for path in PACKAGE.iterdir():
            if path.name != "__pycache__":
                self.assertEqual(path.suffix, ".py", path)
        self.assertTrue((PACKAGE / "__init__.py").exists())
