"""Plain forms of webs: what shows the same by fewer gates and shorter texts."""

from holdgates.gates import called, size_of
from holdgates.things import root
from holdgates.webs import Web


def plain(web):
    """The plain form of a web."""
    inlets = [(lane, root(rhythm)) for lane, rhythm in web.inlets()]
    gates = [_short(gate) for gate in web.gates()]
    couple = _first_couple(gates)
    while couple is not None:
        at, other = couple
        if at == other:
            inlets, gates = _left_out(inlets, gates, at)
        else:
            gates = _made_one(gates, at, other)
        couple = _first_couple(gates)
    return Web(inlets, gates)


def is_plain(web):
    """Whether a web is its own plain form."""
    return plain(web) == web


def _short(gate):
    """A gate, a deal with the least text that comes to the same."""
    if gate[0] == "deal":
        return gate[:-1] + (root(gate[-1]),)
    return gate


def _first_couple(gates):
    """The numbers of the first gate that can go and of the one it is one with, its own to leave it out; or None."""
    for at, gate in enumerate(gates):
        if gate[0] in ("hold", "wait") and size_of(gate) == 0:
            return at, at
        for other, taker in enumerate(gates):
            if _are_one(gate, taker):
                return at, other
    return None


def _are_one(gate, taker):
    """Whether a gate, and one that takes what it gives, do together what one alone does."""
    if gate[0] not in ("hold", "wait", "lag") or taker[0] != gate[0] or taker[1] != gate[2]:
        return False
    return gate[0] != "hold" or _are_first(gate, taker) or _are_last(gate, taker)


def _are_first(gate, taker):
    """Whether both holds let the least go."""
    return gate[4] == 0 and taker[4] == 0


def _are_last(gate, taker):
    """Whether both holds let the greatest go."""
    return gate[4] == gate[3] and taker[4] == taker[3]


def _made_one(gates, at, other):
    """The gates, the one at a place being one with another behind it."""
    gate, taker = gates[at], gates[other]
    size = size_of(gate) + size_of(taker)
    one = (gate[0], gate[1], taker[2], size)
    if gate[0] == "hold":
        one = one + (0 if _are_first(gate, taker) else size,)
    return gates[:at] + [one] + gates[at + 1:other] + gates[other + 1:]


def _left_out(inlets, gates, at):
    """Inlets and gates without the gate at a place, the lane that it took being called as its out."""
    _, lane, out = gates[at][:3]
    names = {lane: out}
    rows = [(names.get(name, name), rhythm) for name, rhythm in inlets]
    return rows, [called(gate, names) for gate in gates[:at] + gates[at + 1:]]
