"""Whether a lane rises: carries nothing less than an earlier one, for all feeds of a kind."""

from holdgates.bounds import STANDS
from holdgates.lots import feed_of, search
from holdgates.mazes import Counted, marked_at


def rises(web, lane, *, kinds=None):
    """("rises", lot), or ("falls", beat, feed) of the first beat at which the lane can carry a nought behind a one."""
    marked, place = marked_at(web, lane, kinds)
    flaw, told = search(Counted(marked, place, 0), STANDS)
    if flaw is None:
        return "rises", told
    return "falls", len(told), feed_of(web, told)
