import unittest

from holdgates.deeds import is_deed
from holdgates.webs import Web
from tests.helper import LINE, TWO, anything, equal_kinds, unchanged

FAR = 10 ** 12
DEEDS = [
    ("web", "a", LINE), ("stream", "s", "a"), ("step", "s", ()), ("step", "s", (1, None, -FAR, FAR)), ("lift", "s", 0, "up"),
    ("lift", "s", -(10 ** 70), "down"), ("look", "s", "c", 5), ("look", "s", "c", -FAR), ("tell", "s", 0, 10 ** 70, FAR),
    ("twin", "s", "s"), ("change", "a", TWO), ("drop", "abcdefgh"),
]


def is_deed_by_hand(thing):
    """By the document's words."""
    if type(thing) is not tuple or not thing or type(thing[0]) is not str:
        return False

    def name(part):
        return type(part) is str and 1 <= len(part) <= 8 and all("a" <= sign <= "z" for sign in part)

    def number(part):
        return type(part) is int and abs(part) <= FAR

    def whole(part):
        return type(part) is int

    def web(part):
        return isinstance(part, Web)

    def numbers(part):
        return type(part) is tuple and all(one is None or number(one) for one in part)

    def word(part):
        return type(part) is str and part in ("up", "down")
    forms = {"web": [name, web], "stream": [name, name], "step": [name, numbers], "lift": [name, whole, word],
             "look": [name, name, number], "tell": [name, whole, whole, number], "twin": [name, name],
             "change": [name, web], "drop": [name]}
    form = forms.get(thing[0])
    return form is not None and len(thing) == len(form) + 1 and all(is_so(part) for is_so, part in zip(form, thing[1:]))


class Deeds(unittest.TestCase):
    def test_deeds(self):
        for deed in DEEDS:
            self.assertIs(unchanged(is_deed, deed), True, deed)
            self.assertIs(is_deed(thing=deed), True)
            self.assertIs(is_deed(list(deed)), False)

    def test_of_anything(self):
        for thing in anything():
            self.assertIs(is_deed(thing), False, thing)
            self.assertIs(is_deed((thing,)), False)
            for deed in DEEDS:
                for at in range(len(deed)):
                    other = deed[:at] + (thing,) + deed[at + 1:]
                    self.assertIs(is_deed(other), is_deed_by_hand(other), other)
                    self.assertIs(is_deed(deed[:at] + deed[at + 1:]), False)
                    more = deed[:at] + (thing,) + deed[at:]
                    self.assertIs(is_deed(more), is_deed_by_hand(more))
                self.assertIs(is_deed(deed + (thing,)), False)
            for numbers in [(thing,), (1, thing), (None, thing, 2)]:
                right = thing is None or (type(thing) is int and abs(thing) <= FAR)
                self.assertIs(is_deed(("step", "s", numbers)), right)

    def test_edges(self):
        for deed, right in [
                (("look", "s", "c", FAR + 1), False), (("look", "s", "c", -FAR - 1), False),
                (("step", "s", (FAR + 1,)), False), (("tell", "s", 0, 0, FAR + 1), False),
                (("look", "s", "C", 5), False), (("look", "s", "", 5), False), (("lift", "s", True, "up"), False),
                (("lift", "s", 0, "UP"), False), (("step", "s", (True,)), False), (("tell", "s", False, 0, 1), False),
                (("tell", "s", 0, True, 1), False), (("drop", "abcdefghi"), False), (("step", "s", [1]), False),
                (("run", "s"), False), (("undo",), False), (("web", "a", [("a", "x")]), False),
                (("step", "s"), False), (("step", "s", 1), False), (("step", "s", 1, 2), False), ("web", False),
                ("step s", False), (("twin", "s", "t\n"), False), (("stream", "s", "\u00e9"), False),
                (("lift", "s", 10 ** 90, "up"), True)]:
            self.assertIs(is_deed(deed), right, deed)

    def test_equal_words(self):
        self.assertTrue(equal_kinds([is_deed_by_hand(deed) for deed in DEEDS], [True] * len(DEEDS)))
