"""Gates: which tuples are gates, and which lanes they take and give."""

from holdgates.names import is_made_of, is_name
from holdgates.things import is_whole

MOST_KEPT = 12
LONGEST_TEXT = 6
LIFTABLE = ("hold", "wait", "cross")
# How many lanes a gate takes and gives, by its word.
TAKEN = {"hold": 1, "wait": 1, "lag": 1, "deal": 1, "join": 2, "cross": 2}
GIVEN = {"hold": 1, "wait": 1, "lag": 1, "deal": 2, "join": 1, "cross": 2}


def taken_by(gate):
    """The lanes that a gate takes, in order."""
    return gate[1:1 + TAKEN[gate[0]]]


def given_by(gate):
    """The lanes that a gate gives, in order."""
    first = 1 + TAKEN[gate[0]]
    return gate[first:first + GIVEN[gate[0]]]


def told_of(gate):
    """What a gate is told behind its lanes: numbers or a text."""
    return gate[1 + TAKEN[gate[0]] + GIVEN[gate[0]]:]


def called(gate, names):
    """A gate, its lanes called by other names where a dict tells some."""
    lanes = [names.get(lane, lane) for lane in taken_by(gate) + given_by(gate)]
    return gate[:1] + tuple(lanes) + told_of(gate)


def size_of(gate):
    """The c of a gate: how much it keeps at most; 0 of deals and crosses."""
    if gate[0] in ("deal", "cross"):
        return 0
    return told_of(gate)[0]


def is_gate(thing):
    """Whether a thing is by itself a gate."""
    if not isinstance(thing, tuple) or len(thing) == 0:
        return False
    if not isinstance(thing[0], str) or thing[0] not in TAKEN:
        return False
    return _has_lanes(thing) and _is_told(thing[0], told_of(thing))


def _has_lanes(thing):
    """Whether a tuple that begins with a gate's word has its lanes behind it, all unlike."""
    lanes = taken_by(thing) + given_by(thing)
    if len(lanes) < TAKEN[thing[0]] + GIVEN[thing[0]] or not all([is_name(lane) for lane in lanes]):
        return False
    return len(set(lanes)) == len(lanes)


def _is_told(word, told):
    """Whether just this may be told of a gate of this word behind its lanes."""
    if word == "cross":
        return len(told) == 0
    if word == "deal":
        return len(told) == 1 and is_made_of(told[0], "lr", LONGEST_TEXT)
    if word == "hold":
        return len(told) == 2 and is_whole(told[0], 0, MOST_KEPT) and is_whole(told[1], 0, told[0])
    least = 1 if word == "lag" else 0
    return len(told) == 1 and is_whole(told[0], least, MOST_KEPT)
