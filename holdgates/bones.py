"""Bones: when lanes carry and how many gates keep, of feeds without end."""

from holdgates.errors import Jams
from holdgates.goings import by_noughts
from holdgates.steps import tokens_kept
from holdgates.things import root
from holdgates.walks import Walk, lift_beats, own_beats
from holdgates.webs import place_of


def bones_of(course):
    """A course's walk by noughts that come round: of feeds without end all are alike to it."""
    return Walk(by_noughts(course), None, lift_beats(course)[-1])


def jam(course):
    """The first beat at which a course jams, or None."""
    try:
        bones_of(course)
    except Jams as refused:
        return refused.beat
    return None


def round_of(course):
    """The first beat, from the last lift's on, and the number of beats behind which all comes again."""
    walk = bones_of(course)
    return walk.first, walk.again()


def carries(course, lane, beat):
    """Whether a lane carries at a beat."""
    place = place_of(course.web(), lane)
    walk = bones_of(course)
    return beat >= 1 and walk.shown(beat)[place] is not None


def carried(course, lane, beat):
    """How many tokens a lane has carried up to a beat."""
    place = place_of(course.web(), lane)
    walk = bones_of(course)
    ahead, turn = _carrying(walk, place)
    if beat <= walk.first:
        return len([at for at in ahead if at <= beat])
    turns, rest = divmod(beat - walk.first, walk.again())
    begun = [at for at in turn if at <= walk.first + rest]
    return len(ahead) + turns * len(turn) + len(begun)


def kept(course, gate, beat):
    """How many tokens a gate keeps behind a beat."""
    parts = bones_of(course).behind(beat)[0]
    return len(tokens_kept(course.web().gates()[gate], parts[gate]))


def beat_at(course, lane, number):
    """The beat at which a lane carries its token of this number, from 0; None where it never does."""
    place = place_of(course.web(), lane)
    walk = bones_of(course)
    ahead, turn = _carrying(walk, place)
    if number < len(ahead):
        return ahead[number]
    if len(turn) == 0:
        return None
    turns, rest = divmod(number - len(ahead), len(turn))
    return turn[rest] + turns * walk.again()


def shape(course, lane):
    """A lane's signs, x where it carries: those ahead, and those that come again and again."""
    place = place_of(course.web(), lane)
    walk = bones_of(course)
    signs = "".join(["-" if row[place] is None else "x" for row in walk.rows])
    ahead, again = signs[:walk.first], root(signs[walk.first:])
    while ahead != "" and ahead[-1] == again[-1]:
        ahead, again = ahead[:-1], again[-1] + again[:-1]
    return ahead, again


def parted(course, other, lanes):
    """The first beat and lane at which just one of two courses carries there, or None."""
    places = [place_of(course.web(), lane) for lane in lanes]
    spots = [place_of(other.web(), lane) for lane in lanes]
    one, two = bones_of(course), bones_of(other)
    for beat in range(1, own_beats(one, two, None) + 1):
        mine, others = one.shown(beat), two.shown(beat)
        for lane, place, spot in zip(lanes, places, spots):
            if (mine[place] is None) != (others[spot] is None):
                return beat, lane
    return None


def _carrying(walk, place):
    """The beats at which a lane carries: ahead of what comes again, and in its first turn."""
    beats = [at + 1 for at, row in enumerate(walk.rows) if row[place] is not None]
    return [at for at in beats if at <= walk.first], [at for at in beats if at > walk.first]
