"""Kinds of feeds: for each inlet by how many places a lesser number may come late, None for any."""

from holdgates.errors import NoKind
from holdgates.feeds import check_feed
from holdgates.things import are_many, is_whole

MOST_KIND = 8


def is_of(web, kinds, feed):
    """Whether a feed of a web is of a kind."""
    kinds = told_kinds(web, kinds)
    check_feed(web, feed)
    return all([_is_row_of(kind, row) for kind, row in zip(kinds, feed)])


def told_kinds(web, kinds):
    """The kind that is handed in, a tuple by inlets; refused where it is none."""
    many = len(web.inlets())
    if kinds is None:
        return (None,) * many
    if not are_many(kinds, many, many) or not all([_is_kind(kind) for kind in kinds]):
        raise NoKind(kinds)
    return tuple(kinds)


def no_marks(kinds):
    """The marks ahead of the first beat."""
    return (None,) * len(kinds)


def are_marks(kinds, thing):
    """Whether a thing has the form of marks of a kind."""
    if not isinstance(thing, tuple) or len(thing) != len(kinds):
        return False
    return all([_is_mark(kind, part) for kind, part in zip(kinds, thing)])


def ways(kinds, inlets, marks):
    """Each choice of the kind that can come by some inlets, rising, with the marks behind it."""
    found = [((), marks)]
    for inlet in inlets:
        kind = kinds[inlet]
        found = [(choice + (bit,), told[:inlet] + (_mark_behind(kind, told[inlet], bit),) + told[inlet + 1:])
                 for choice, told in found for bit in (0, 1) if _may_come(kind, told[inlet], bit)]
    return found


def _is_kind(thing):
    """Whether a thing is a kind of one inlet."""
    return thing is None or is_whole(thing, 0, MOST_KIND)


def _is_row_of(kind, row):
    """Whether no number of a row is less than one that is more than kind places ahead."""
    if kind is None:
        return True
    greatest = None
    for ahead, number in zip(row, row[kind + 1:]):
        if greatest is None or ahead > greatest:
            greatest = ahead
        if number < greatest:
            return False
    return True


def _is_mark(kind, thing):
    """Whether a thing has the form of a mark of an inlet's kind."""
    return thing is None or (kind is not None and is_whole(thing, 0, kind))


def _may_come(kind, mark, bit):
    """Whether a nought or a one may come by an inlet."""
    return bit == 1 or mark is None or mark < kind


def _mark_behind(kind, mark, bit):
    """An inlet's mark behind a nought or a one."""
    if kind is None:
        return None
    if mark is None:
        return 0 if bit == 1 else None
    return min(mark + 1, kind)
