"""Whether two webs show the same at couples of lanes, for all feeds without end of a kind."""

from holdgates.bounds import STANDS
from holdgates.lots import feed_of, search
from holdgates.mazes import coupled


def alike(one, other, couples, *, kinds=None):
    """("alike", lot), or ("parts", beat, number of a couple, feed) of the first beat that parts them."""
    flaw, told = search(coupled(one, other, couples, kinds), STANDS)
    if flaw is None:
        return "alike", told
    return "parts", len(told), flaw, feed_of(one, told)
