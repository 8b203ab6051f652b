"""Mazes: what webs are gone through by, for feeds of noughts and ones of a kind."""

from holdgates.bones import bones_of
from holdgates.courses import Course
from holdgates.errors import OtherInlets
from holdgates.likes import are_marks, no_marks, told_kinds, ways
from holdgates.smalls import Beats, first_small, is_small
from holdgates.things import is_whole
from holdgates.webs import place_of


class Marked:
    """Small stands with marks: (rest, kept, marks). Its moves tell what the lanes carry, in a flaw's place."""

    def __init__(self, web, kinds):
        self._web = web
        self._kinds = kinds
        self._beats = Beats(web)

    def start(self):
        """The first small stand, without marks."""
        return first_small(self._web) + (no_marks(self._kinds),)

    def moves(self, node):
        """For each choice of the kind: the choice, what the lanes carry, and what is behind it."""
        rest, kept, marks = node
        found = []
        for choice, after in ways(self._kinds, self._beats.takers(rest), marks):
            small, carried = self._beats.on((rest, kept), choice)
            found.append((choice, carried, small + (after,)))
        return found

    def is_node(self, thing):
        """Whether a tuple of three has the form of a small stand with marks."""
        return is_small(self._web, thing[:2]) and are_marks(self._kinds, thing[2])


class Counted:
    """Marked small stands with how many ones a lane carried, most + 1 of more: (rest, kept, marks, ones).

    A nought behind more than most ones is a flaw.
    """

    def __init__(self, marked, place, most):
        self._marked = marked
        self._place = place
        self._most = most

    def start(self):
        """The first small stand, without marks and ones."""
        return self._marked.start() + (0,)

    def moves(self, node):
        """For each choice of the kind: the choice, 0 where it is a flaw, and what is behind it."""
        ones = node[3]
        found = []
        for choice, carried, after in self._marked.moves(node[:3]):
            token = carried[self._place]
            flaw = 0 if token == 0 and ones > self._most else None
            many = min(ones + 1, self._most + 1) if token == 1 else ones
            found.append((choice, flaw, after + (many,)))
        return found

    def is_node(self, thing):
        """Whether a thing has the form of a small stand with marks and ones."""
        if not isinstance(thing, tuple) or len(thing) != 4:
            return False
        return self._marked.is_node(thing[:3]) and is_whole(thing[3], 0, self._most + 1)


class Coupled:
    """Two webs at once: (rest, kept, kept, marks).

    A couple of lanes that carry unlike things is a flaw, by its place.
    """

    def __init__(self, one, other, places, kinds):
        self._one = one
        self._other = other
        self._places = places
        self._kinds = kinds
        self._beats = Beats(one)
        self._others = Beats(other)

    def start(self):
        """Both first small stands, without marks."""
        return first_small(self._one) + (first_small(self._other)[1], no_marks(self._kinds))

    def moves(self, node):
        """For each choice of the kind: the choice, the least couple that is a flaw, and what is behind it."""
        rest, kept, held, marks = node
        found = []
        for choice, after in ways(self._kinds, self._beats.takers(rest), marks):
            small, carried = self._beats.on((rest, kept), choice)
            like, shown = self._others.on((rest, held), choice)
            found.append((choice, first_unlike(self._places, carried, shown), small + (like[1], after)))
        return found

    def is_node(self, thing):
        """Whether a thing has the form of two small stands with marks."""
        if not isinstance(thing, tuple) or len(thing) != 4:
            return False
        rest, kept, held, marks = thing
        if not is_small(self._one, (rest, kept)) or not is_small(self._other, (rest, held)):
            return False
        return are_marks(self._kinds, marks)


def first_unlike(places, carried, shown):
    """The number of the first couple of places at which two webs' lanes carry unlike things, or None."""
    for number, (place, spot) in enumerate(places):
        if carried[place] != shown[spot]:
            return number
    return None


def marked_at(web, lane, kinds):
    """A web's marked small stands, and a lane's place; refused where the lane, the kind or the web's bones are."""
    place = place_of(web, lane)
    kinds = told_kinds(web, kinds)
    bones_of(Course(web))
    return Marked(web, kinds), place


def coupled(one, other, couples, kinds):
    """Two webs at couples of lanes, for a kind; refused where inlets, lanes, the kind or bones are."""
    if one.inlets() != other.inlets():
        raise OtherInlets()
    places = [(place_of(one, lane), place_of(other, spot)) for lane, spot in couples]
    kinds = told_kinds(one, kinds)
    bones_of(Course(one))
    bones_of(Course(other))
    return Coupled(one, other, places, kinds)
