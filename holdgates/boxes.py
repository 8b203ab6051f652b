"""Boxes: all feeds that show some sightings, as spans of their inputs."""

from holdgates.sights import few_sights
from holdgates.spans import ANY
from holdgates.trees import grown


def boxes(course, sightings, *, given=()):
    """The boxes of the told tree's leaves that fit: tuples of (from, to) by the inputs, None for open ends."""
    sights = few_sights(course, sightings, given)
    _, found = grown(sights)
    return told_boxes(found, sights.inputs())


def told_boxes(found, inputs):
    """Boxes as tuples of (from, to) by some inputs."""
    return [tuple([box.get(part, ANY) for part in inputs]) for box in found]


def has(found, numbers):
    """Whether numbers, one for each input, lie in a box."""
    return any([_lie_in(box, numbers) for box in found])


def within(found, low, high):
    """How many tuples of numbers from low to high lie in boxes that have none in common."""
    many = 0
    for box in found:
        product = 1
        for span in box:
            product = product * _count(span, low, high)
        many += product
    return many


def hull(found):
    """For each input (least from, greatest to), None where open; None of no box."""
    if len(found) == 0:
        return None
    spans = []
    for at in range(len(found[0])):
        lows = [box[at][0] for box in found]
        highs = [box[at][1] for box in found]
        spans.append((None if None in lows else min(lows), None if None in highs else max(highs)))
    return spans


def _lie_in(box, numbers):
    """Whether numbers lie in a box."""
    return all([_has_number(span, number) for span, number in zip(box, numbers)])


def _has_number(span, number):
    """Whether a number lies within a span."""
    least, greatest = span
    return (least is None or least <= number) and (greatest is None or number <= greatest)


def _count(span, low, high):
    """How many numbers from low to high lie within a span."""
    least, greatest = span
    first = low if least is None else max(low, least)
    last = high if greatest is None else min(high, greatest)
    return max(0, last - first + 1)
