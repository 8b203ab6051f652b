"""Courses: webs with lifts."""

from holdgates.errors import NoCourse
from holdgates.gates import LIFTABLE
from holdgates.things import are_many, are_rising, is_beat, is_whole
from holdgates.webs import Web

MOST_LIFTS = 12
WORDS = ("up", "down")


class Course:
    """A web, and the beats at which gates of it are lifted and let down."""

    def __init__(self, web, *, lifts=()):
        if not isinstance(web, Web):
            raise NoCourse("web")
        if not _are_lifts(web, lifts):
            raise NoCourse("lifts")
        self._web = web
        self._lifts = tuple(lifts)

    def __eq__(self, other):
        return isinstance(other, Course) and self._web == other._web and self._lifts == other._lifts

    def web(self):
        """The web."""
        return self._web

    def lifts(self):
        """The lifts, as they were told."""
        return list(self._lifts)

    def is_lifted(self, gate, beat):
        """Whether the last lift of a gate ahead of a beat lifted it."""
        words = [word for at, number, word in self._lifts if number == gate and at < beat]
        return len(words) > 0 and words[-1] == "up"


def is_word(thing):
    """Whether a thing is a lift's word."""
    return isinstance(thing, str) and thing in WORDS


def _is_lift(gates, thing):
    """Whether a thing is by itself a lift of one of the gates."""
    if not isinstance(thing, tuple) or len(thing) != 3:
        return False
    beat, gate, word = thing
    if not is_beat(beat) or not is_whole(gate, 0, len(gates) - 1):
        return False
    return gates[gate][0] in LIFTABLE and is_word(word)


def _are_lifts(web, thing):
    """Whether a thing is a list or tuple of lifts, rising by beat and gate."""
    gates = web.gates()
    if not are_many(thing, 0, MOST_LIFTS) or not all([_is_lift(gates, lift) for lift in thing]):
        return False
    return are_rising([lift[:2] for lift in thing])
