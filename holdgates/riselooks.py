"""The look at whether a lane rises."""

from holdgates.lots import is_lot
from holdgates.mazes import Counted, marked_at
from holdgates.witnesses import is_behind_greater, is_told, is_witness, tokens_by


def shows_rises(web, lane, thing, *, kinds=None):
    """Whether a thing tells rightly that a lane rises for a kind, or what makes it fall."""
    marked, place = marked_at(web, lane, kinds)
    if is_told(thing, "rises", 2):
        return is_lot(Counted(marked, place, 0), thing[1])
    if not is_told(thing, "falls", 3):
        return False
    _, beat, feed = thing
    return is_witness(web, kinds, beat, feed) and is_behind_greater(tokens_by(web, place, feed, beat), 1)
