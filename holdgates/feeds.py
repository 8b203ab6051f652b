"""Feeds: the numbers that go in by a web's inlets."""

from holdgates.errors import NoFeed
from holdgates.names import takes, times_of
from holdgates.things import are_numbers, first_wrong

LONGEST_ROW = 2000


def is_feed(web, thing):
    """Whether a thing is a feed of a web."""
    return _wrong_row(web, thing) is None


def inputs(web, beat):
    """All (inlet, number) that go in up to a beat, by beats, of one beat by inlets."""
    found = []
    for now in range(1, beat + 1):
        times = times_by(web, now)
        found.extend([(inlet, times[inlet] - 1) for inlet in takers(web, now)])
    return found


def cut(web, feed, beat):
    """Of each row of a feed just the numbers that go in up to a beat."""
    check_feed(web, feed)
    return tuple([row[:many] for row, many in zip(feed, times_by(web, beat))])


def bits(web, feed, least):
    """1 in the place of each number of a feed that is the least one or more, else 0."""
    check_feed(web, feed)
    return tuple([tuple([1 if number >= least else 0 for number in row]) for row in feed])


def is_endless(web, feed, beat):
    """Whether each row of a feed has all numbers that go in up to a beat."""
    check_feed(web, feed)
    return all([len(row) >= many for row, many in zip(feed, times_by(web, beat))])


def takers(web, beat):
    """The numbers of the inlets that take at a beat, rising."""
    return [inlet for inlet, (_, rhythm) in enumerate(web.inlets()) if takes(rhythm, beat)]


def times_by(web, beat):
    """How many numbers go in by each inlet up to a beat."""
    return [times_of(rhythm, beat) for _, rhythm in web.inlets()]


def check_feed(web, thing):
    """Refuses what is no feed of a web."""
    inlet = _wrong_row(web, thing)
    if inlet is not None:
        raise NoFeed(inlet)


def _is_row(thing):
    """Whether a thing is a row of a feed."""
    return are_numbers(thing, 0, LONGEST_ROW)


def _wrong_row(web, thing):
    """The number of the first row that is none of a feed's, -1 of what is no feed at all, or None."""
    many = len(web.inlets())
    return first_wrong(thing, many, many, _is_row)
