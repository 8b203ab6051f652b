"""Kin of webs: under other names, mirrored, beside and behind one another, pruned."""

from holdgates.errors import LikeLane, NoNames
from holdgates.gates import called, told_of
from holdgates.names import is_name
from holdgates.webs import Web


def renamed(web, names):
    """The web, its lanes called by other names: a dict tells one of each lane."""
    if not _are_of(web.lanes(), names) or not _are_unlike_names(names):
        raise NoNames(names)
    inlets = [(names[lane], rhythm) for lane, rhythm in web.inlets()]
    return Web(inlets, [called(gate, names) for gate in web.gates()])


def mirrored(web):
    """The web that does with numbers below nought what this one does with them."""
    return Web(web.inlets(), [_mirrored_gate(gate) for gate in web.gates()])


def beside(one, other):
    """Two webs in one, neither fed by the other."""
    _check_unlike(one, other.lanes())
    return Web(one.inlets() + other.inlets(), one.gates() + other.gates())


def behind(one, other, names):
    """Two webs in one, the other fed by outlets of the one: a dict tells one of each of its inlets' lanes."""
    many = len(other.inlets())
    lanes = other.lanes()
    if not _are_of(lanes[:many], names) or not _are_unlike_outlets(one, names):
        raise NoNames(names)
    _check_unlike(one, lanes[many:])
    return Web(one.inlets(), one.gates() + [called(gate, names) for gate in other.gates()])


def pruned(web, lanes):
    """Just the inlets and gates by which what the lanes carry may have come."""
    sources, needed = [], []
    for lane in lanes:
        sources.extend(web.sources(lane))
        needed.extend(web.needed(lane))
    inlets = [inlet for at, inlet in enumerate(web.inlets()) if at in sources]
    return Web(inlets, [gate for at, gate in enumerate(web.gates()) if at in needed])


def _are_of(lanes, names):
    """Whether a thing is a dict that tells something of each of the lanes, and of nothing else."""
    return isinstance(names, dict) and len(names) == len(lanes) and all([lane in names for lane in lanes])


def _are_unlike_names(names):
    """Whether a dict tells names, all unlike."""
    told = list(names.values())
    return all([is_name(name) for name in told]) and len(set(told)) == len(told)


def _are_unlike_outlets(web, names):
    """Whether a dict tells outlets of a web, all unlike."""
    outlets = web.outlets()
    return _are_unlike_names(names) and all([names[lane] in outlets for lane in names])


def _check_unlike(one, lanes):
    """Refuses the first of the lanes that a web has, too."""
    taken = one.lanes()
    for lane in lanes:
        if lane in taken:
            raise LikeLane(lane)


def _mirrored_gate(gate):
    """A gate that does to numbers below nought what this one does to them."""
    if gate[0] == "hold":
        most, rank = told_of(gate)
        return gate[:3] + (most, most - rank)
    if gate[0] == "cross":
        _, one, other, less, more = gate
        return ("cross", other, one, more, less)
    return gate
