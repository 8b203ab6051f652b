"""Least holds: how many tokens a hold behind a lane must keep for what comes behind it to rise."""

from holdgates.bounds import STANDS
from holdgates.graphs import graph_of, knots_of, part_to, way_to
from holdgates.lots import feed_of, is_lot, search
from holdgates.mazes import Counted, marked_at
from holdgates.things import is_bit, is_count
from holdgates.webs import Web
from holdgates.witnesses import is_behind_greater, is_told, is_witness, tokens_by


def least_hold(web, lane, *, kinds=None):
    """("hold", c, beat, feed, lot) of the least hold, or ("never", ahead, again, behind) where none is enough."""
    marked, place = marked_at(web, lane, kinds)
    graph = graph_of(marked, STANDS)
    noughts = _carrying(graph, place, 0)
    part = part_to(graph, noughts)
    knots = knots_of(part)
    turn = _turn(part, knots, place)
    if turn is not None:
        return _never(graph, noughts, turn)
    most = _most_ones(part, knots, noughts, place)
    beat, feed = None, None
    if most > 0:
        _, choices = search(Counted(marked, place, most - 1), None)
        beat, feed = len(choices), feed_of(web, choices)
    _, lot = search(Counted(marked, place, most), None)
    return "hold", most, beat, feed, lot


def shows_hold(web, lane, thing, *, kinds=None):
    """Whether a thing tells rightly the least hold that makes a lane rise, or that none does."""
    marked, place = marked_at(web, lane, kinds)
    if is_told(thing, "never", 4):
        return _is_never(marked, place, thing)
    if not is_told(thing, "hold", 5) or not is_count(thing[1]):
        return False
    _, most, beat, feed, lot = thing
    if not is_lot(Counted(marked, place, most), lot):
        return False
    if most == 0:
        return beat is None and feed is None
    return is_witness(web, kinds, beat, feed) and is_behind_greater(tokens_by(web, place, feed, beat), most)


def held(web, lane, most, out):
    """The web with a hold of so many behind a lane, which lets the least go, as its last gate."""
    return Web(web.inlets(), web.gates() + [("hold", lane, out, most, 0)])


def _carrying(graph, place, bit):
    """For each node from which a move makes the lane carry a nought, or a one, the first such choice."""
    found = {}
    for node in graph:
        for choice, carried, _ in graph[node]:
            if carried[place] == bit:
                found.setdefault(node, choice)
    return found


def _turn(part, knots, place):
    """A move by which the lane carries a one within a knot: (node, choice, node behind it); None where none does."""
    for node in part:
        for choice, carried, behind in part[node]:
            if carried[place] == 1 and knots[node] == knots[behind]:
                return node, choice, behind
    return None


def _never(graph, noughts, turn):
    """The choices that bring ones again and again, and then a nought."""
    node, choice, behind = turn
    start = list(graph)[0]
    _, ahead = way_to(graph, start, {node: True})
    _, back = way_to(graph, behind, {node: True})
    last, on = way_to(graph, node, noughts)
    return "never", ahead, (choice,) + back, on + (noughts[last],)


def _most_ones(part, knots, noughts, place):
    """The most ones that the lane carries ahead of a nought, no knot bringing one."""
    most = {}
    for node in knots:
        many = most.setdefault(knots[node], 0)
        for _, carried, behind in part[node]:
            one = 1 if carried[place] == 1 else 0
            most[knots[behind]] = max(most.get(knots[behind], 0), many + one)
    return max([most[knots[last]] for last in noughts], default=0)


def _is_never(marked, place, thing):
    """Whether choices bring ones again and again, and then a nought."""
    if not all([isinstance(part, tuple) and len(part) <= STANDS + 1 for part in thing[1:]]):
        return False
    _, ahead, again, behind = thing
    node, _ = _gone(marked, place, marked.start(), ahead)
    if node is None:
        return False
    turned, tokens = _gone(marked, place, node, again)
    if turned != node or 1 not in tokens:
        return False
    _, tokens = _gone(marked, place, node, behind)
    return len(tokens) > 0 and tokens[-1] == 0


def _gone(marked, place, node, choices):
    """The node behind some choices, and what the lane carries on the way; (None, []) where they aren't of the kind."""
    tokens = []
    for choice in choices:
        moves = [move for move in marked.moves(node) if move[0] == choice]
        if len(moves) == 0 or not all([is_bit(bit) for bit in choice]):
            return None, []
        _, carried, node = moves[0]
        tokens.append(carried[place])
    return node, tokens
