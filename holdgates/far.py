"""Numbers that come round: what they bring behind however many beats."""

from holdgates.bones import beat_at
from holdgates.errors import NoRounds
from holdgates.goings import Going, first_kept
from holdgates.things import are_numbers, first_wrong
from holdgates.walks import Walk, lift_beats, own_beats
from holdgates.webs import place_of

LONGEST_ROW = 12


def is_rounds(web, thing):
    """Whether a thing tells, for each inlet, numbers that come round."""
    return _wrong_round(web, thing) is None


def far_carried(course, rounds, beat):
    """What the lanes carry at a beat, a tuple by lanes."""
    return _gone(course, rounds, beat - 1).step()


def far_stand(course, rounds, beat):
    """The stand behind a beat."""
    return _gone(course, rounds, beat).stand()


def far_round(course, rounds):
    """The first beat, from the last lift's on, and the number of beats behind which all comes again."""
    going = _gone(course, rounds, lift_beats(course)[-1])
    walk = Walk(going, None, going.beat)
    return walk.origin + walk.first, walk.again()


def far_nth(course, rounds, lane, number):
    """The beat and the number of a lane's token of this number, from 0; None where it never carries so many."""
    _check_rounds(course.web(), rounds)
    place = place_of(course.web(), lane)
    beat = beat_at(course, lane, number)
    if beat is None:
        return None
    return beat, far_carried(course, rounds, beat)[place]


def far_parted(course, rounds, other, lane):
    """The first beat at which a lane carries unlike numbers by two feeds that come round, or None."""
    one, two = _begun(course, rounds), _begun(course, other)
    place = place_of(course.web(), lane)
    for end in lift_beats(course) + [None]:
        mine = Walk(one, end, one.beat)
        others = Walk(two, end, two.beat)
        for number in range(own_beats(mine, others, end)):
            beat = mine.origin + number + 1
            if mine.shown(beat)[place] != others.shown(beat)[place]:
                return beat
        if end is not None:
            one.jump(end, mine.behind(end))
            two.jump(end, others.behind(end))
    return None


def _begun(course, rounds):
    """A going at beat 0, by numbers that come round."""
    _check_rounds(course.web(), rounds)
    return Going(course, rounds, (0, first_kept(course.web())))


def _gone(course, rounds, beat):
    """A going at a beat, by numbers that come round, gone stretch by stretch."""
    going = _begun(course, rounds)
    starts = [start for start in lift_beats(course) if start < beat]
    for end in starts + [beat]:
        walk = Walk(going, end, going.beat)
        going.jump(end, walk.behind(end))
    return going


def _is_round(thing):
    """Whether a thing tells an inlet's numbers that come round."""
    if not isinstance(thing, tuple) or len(thing) != 2:
        return False
    return are_numbers(thing[0], 0, LONGEST_ROW) and are_numbers(thing[1], 1, LONGEST_ROW)


def _wrong_round(web, thing):
    """The number of the first part that tells no inlet's numbers, -1 of what isn't as many, or None."""
    many = len(web.inlets())
    return first_wrong(thing, many, many, _is_round)


def _check_rounds(web, thing):
    """Refuses what are no numbers that come round."""
    inlet = _wrong_round(web, thing)
    if inlet is not None:
        raise NoRounds(inlet)
