"""The desk: a yard that is told rows, and answers with texts."""

from holdgates.errors import NoAsk, NoInlet, NoInput
from holdgates.figures import parts_in, row_with
from holdgates.names import is_name
from holdgates.things import Changing, is_any_whole
from holdgates.yard import Yard
from holdgates.yardtexts import deed_in, show_yard


class Desk(Changing):
    """A yard that is told rows, words parted by one blank."""

    def __init__(self):
        self._yard = Yard()

    def __eq__(self, other):
        return isinstance(other, Desk) and self._yard == other._yard

    def copied(self):
        """Another desk that stands alike, with what was taken back."""
        other = Desk()
        other._yard = self._yard.copied()
        return other

    def yard(self):
        """A copy of its yard, with what was taken back."""
        return self._yard.copied()

    def say(self, row):
        """Does what a row tells, or answers what it asks."""
        if not isinstance(row, str):
            raise NoAsk(row)
        deed = deed_in(row)
        if deed is not None:
            self._yard.do(deed)
            return "ok"
        parts = parts_in(row)
        if _form_of(parts[1:]) not in FORMS.get(parts[0], ()):
            raise NoAsk(row)
        answer = ANSWERS[parts[0]]
        return answer(self._yard, parts[1:])


def _undo(yard, told):
    return "ok" if yard.undo() else "none"


def _redo(yard, told):
    return "ok" if yard.redo() else "none"


def _names(yard, told):
    return _list_of(yard.names())


def _now(yard, told):
    return row_with([yard.now(told[0])])


def _due(yard, told):
    return _list_of(yard.due(told[0]))


def _fed(yard, told):
    rows = yard.fed(told[0])
    if not 0 <= told[1] < len(rows):
        raise NoInlet(told[1])
    return _list_of(rows[told[1]])


def _carried(yard, told):
    span = yard.carried(told[0], told[1], beat=told[2] if len(told) == 3 else None)
    return "none" if span is None else _span_of(span)


def _can(yard, told):
    name, inlet, nth = told
    hidden = yard.hidden(name)
    if (inlet, nth) not in hidden:
        raise NoInput(inlet, nth)
    return _span_of(yard.can_be(name)[hidden.index((inlet, nth))])


def _many(yard, told):
    return row_with([yard.within(told[0], told[1], told[2])])


def _text(yard, told):
    return show_yard(yard)


# What may stand behind the first word of what is no deed: a name, a, or a number, n, each.
FORMS = {
    "undo": ("",), "redo": ("",), "names": ("",), "now": ("a",), "due": ("a",), "fed": ("an",),
    "carried": ("aa", "aan"), "can": ("ann",), "many": ("ann",), "text": ("",),
}
ANSWERS = {
    "undo": _undo, "redo": _redo, "names": _names, "now": _now, "due": _due, "fed": _fed, "carried": _carried,
    "can": _can, "many": _many, "text": _text,
}


def _form_of(parts):
    """A sign for each part: a for a name, n for a number, - for what is neither."""
    return "".join(["a" if is_name(part) else "n" if is_any_whole(part) else "-" for part in parts])


def _list_of(parts):
    """Names, or numbers and None, in a row; none where there is nothing to list."""
    if len(parts) == 0:
        return "none"
    return row_with(["?" if part is None else part for part in parts])


def _span_of(span):
    """The one number that can be, else both ends of those that can."""
    least, greatest = ["?" if end is None else row_with([end]) for end in span]
    return least if least == greatest and least != "?" else least + ".." + greatest
