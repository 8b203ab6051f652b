"""Spans: from which number to which one an input may be, and what the lanes carry by their ends.

A box is a dict that tells spans, (from, to), of inputs, (inlet, number); None is an
open end, and an input of which it tells none may be any number. An end is run as
(0, number), or as what is less, or more, than all of these: who stands where hangs
on the order of the numbers alone.
"""

from holdgates.feeds import times_by
from holdgates.goings import rows_by

ANY = (None, None)
# What stands in the place of an open end, below and above.
BEYOND = ((-1, 0), (1, 0))


def inputs_by(web, beat):
    """All inputs, (inlet, number), that go in up to a beat, by inlets, then by numbers."""
    return [(inlet, number) for inlet, times in enumerate(times_by(web, beat)) for number in range(times)]


def splits(span, number):
    """Whether a span has numbers below a number, and from it on."""
    least, greatest = span
    return (least is None or least < number) and (greatest is None or greatest >= number)


def halves(box, part, number):
    """A box in two: with an input below a number, and from it on."""
    least, greatest = box[part]
    low = {known: box[known] for known in box}
    high = {known: box[known] for known in box}
    low[part] = (least, number - 1)
    high[part] = (number, greatest)
    return low, high


def some_number(span):
    """Any number within a span."""
    least, greatest = span
    if least is not None:
        return least
    return 0 if greatest is None else greatest


def ends_by(course, box, beats):
    """What the lanes carry in so many beats by the least numbers of a box, and what by the greatest ones."""
    least, greatest = [rows_by(course, _feed(course.web(), box, beats, side), beats) for side in (0, 1)]
    return least, greatest


def span_over(course, boxes, beat, place):
    """From which number to which one the lane at a place can carry at a beat, by feeds of some boxes; None of none."""
    lows, highs = [], []
    for box in boxes:
        least, greatest = ends_by(course, box, beat)
        if least[-1][place] is None:
            return None
        lows.append(least[-1][place])
        highs.append(greatest[-1][place])
    if len(lows) == 0:
        return None
    return _told(min(lows)), _told(max(highs))


def _feed(web, box, beats, side):
    """The feed of the least numbers of a box, side 0, or of the greatest ones, side 1."""
    rows = [[] for _ in web.inlets()]
    for part in inputs_by(web, beats):
        end = box.get(part, ANY)[side]
        rows[part[0]].append(BEYOND[side] if end is None else (0, end))
    return tuple([tuple(row) for row in rows])


def _told(token):
    """The number that was run, None of what is beyond all numbers."""
    return None if token in BEYOND else token[1]
