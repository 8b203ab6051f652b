"""Ranges: from which number to which one lanes can carry, where each input is within bounds."""

from holdgates.errors import NoBeat, NoBounds, NoRounds
from holdgates.far import LONGEST_ROW, far_carried
from holdgates.runs import run
from holdgates.things import FARTHEST, are_numbers, first_wrong, is_whole
from holdgates.webs import place_of

LONGEST_BOUNDS = 200


def ranges(course, bounds, beats):
    """For each of so many beats a tuple by lanes: (least, greatest) of what each can carry, None for nothing."""
    _check_bounds(course.web(), bounds)
    lows = run(course, _ends(bounds, 0), beats)
    highs = run(course, _ends(bounds, 1), beats)
    return [_ranges_of(low, high) for low, high in zip(lows, highs)]


def reached(course, bounds, beat, lane, number):
    """A feed within the bounds by which a lane carries just this number at a beat, or None."""
    _check_bounds(course.web(), bounds)
    place = place_of(course.web(), lane)
    if not is_whole(beat, 1, FARTHEST):
        raise NoBeat(beat)
    told = ranges(course, bounds, beat)[-1][place]
    if told is None or not told[0] <= number <= told[1]:
        return None
    return tuple([tuple([min(max(number, least), greatest) for least, greatest in row]) for row in bounds])


def stays(course, bounds, beats, lane, low, high):
    """None where a lane stays from low to high; else the first beat at which it may not, and such a feed."""
    _check_bounds(course.web(), bounds)
    place = place_of(course.web(), lane)
    for at, row in enumerate(ranges(course, bounds, beats)):
        if row[place] is not None and row[place][0] < low:
            return at + 1, _ends(bounds, 0)
        if row[place] is not None and row[place][1] > high:
            return at + 1, _ends(bounds, 1)
    return None


def far_range(course, rounds, beat):
    """(least, greatest) of what each lane can carry at a beat, by bounds that come round; None for nothing."""
    many = len(course.web().inlets())
    inlet = first_wrong(rounds, many, many, _is_round)
    if inlet is not None:
        raise NoRounds(inlet)
    low = far_carried(course, [_ends(turn, 0) for turn in rounds], beat)
    high = far_carried(course, [_ends(turn, 1) for turn in rounds], beat)
    return _ranges_of(low, high)


def _ranges_of(low, high):
    """What lanes carry by the least numbers and by the greatest ones, in one tuple."""
    return tuple([None if least is None else (least, greatest) for least, greatest in zip(low, high)])


def _ends(rows, side):
    """Rows of the bounds' least numbers, side 0, or of their greatest ones, side 1."""
    return tuple([tuple([pair[side] for pair in row]) for row in rows])


def _are_bounds(thing, least, most):
    """Whether a thing is a tuple of least to most pairs of numbers, the first no more than the second."""
    if not isinstance(thing, tuple) or not least <= len(thing) <= most:
        return False
    return all([are_numbers(pair, 2, 2) and pair[0] <= pair[1] for pair in thing])


def _is_round(thing):
    """Whether a thing tells an inlet's bounds that come round."""
    if not isinstance(thing, tuple) or len(thing) != 2:
        return False
    return _are_bounds(thing[0], 0, LONGEST_ROW) and _are_bounds(thing[1], 1, LONGEST_ROW)


def _check_bounds(web, thing):
    """Refuses what are no bounds of a web."""
    many = len(web.inlets())
    inlet = first_wrong(thing, many, many, lambda row: _are_bounds(row, 0, LONGEST_BOUNDS))
    if inlet is not None:
        raise NoBounds(inlet)
