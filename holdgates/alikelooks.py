"""The look at whether two webs show the same."""

from holdgates.lots import is_lot
from holdgates.mazes import coupled
from holdgates.things import is_whole
from holdgates.webs import place_of
from holdgates.witnesses import is_told, is_witness, tokens_by


def shows_alike(one, other, couples, thing, *, kinds=None):
    """Whether a thing tells rightly that two webs show the same at couples of lanes, or what parts them."""
    maze = coupled(one, other, couples, kinds)
    if is_told(thing, "alike", 2):
        return is_lot(maze, thing[1])
    if not is_told(thing, "parts", 4):
        return False
    _, beat, number, feed = thing
    if not is_whole(number, 0, len(couples) - 1) or not is_witness(one, kinds, beat, feed):
        return False
    lane, spot = couples[number]
    carried = tokens_by(one, place_of(one, lane), feed, beat)
    return carried[-1] != tokens_by(other, place_of(other, spot), feed, beat)[-1]
