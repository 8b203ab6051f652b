"""Webs: inlets and gates, and the lanes between them."""

from math import lcm

from holdgates.errors import NoLane, NoWeb
from holdgates.gates import MOST_KEPT, given_by, is_gate, size_of, taken_by
from holdgates.names import is_name, is_rhythm
from holdgates.things import are_many

MOST_INLETS = 3
MOST_GATES = 10


class Web:
    """One to three inlets, and gates that take what inlets and gates ahead of them give."""

    def __init__(self, inlets, gates=()):
        _check_inlets(inlets)
        _check_gates(inlets, gates)
        self._inlets = tuple(inlets)
        self._gates = tuple(gates)

    def __eq__(self, other):
        return isinstance(other, Web) and self._inlets == other._inlets and self._gates == other._gates

    def __len__(self):
        return len(self._gates)

    def inlets(self):
        """The inlets, as they were told."""
        return list(self._inlets)

    def gates(self):
        """The gates, as they were told."""
        return list(self._gates)

    def lanes(self):
        """The inlets' lanes, then what gates give, in order."""
        lanes = [lane for lane, _ in self._inlets]
        for gate in self._gates:
            lanes.extend(given_by(gate))
        return lanes

    def outlets(self):
        """The lanes that no gate takes, in the order of the lanes."""
        taken = [lane for gate in self._gates for lane in taken_by(gate)]
        return [lane for lane in self.lanes() if lane not in taken]

    def common(self):
        """The least common multiple of the rhythms' lengths."""
        length = 1
        for _, rhythm in self._inlets:
            length = lcm(length, len(rhythm))
        return length

    def sources(self, lane):
        """The numbers of the inlets from which what a lane carries may have come."""
        lanes = self._behind(lane)
        return [at for at, inlet in enumerate(self._inlets) if inlet[0] in lanes]

    def needed(self, lane):
        """The numbers of the gates by which what a lane carries may have come, its own one too."""
        lanes = self._behind(lane)
        return [at for at, gate in enumerate(self._gates) if any([out in lanes for out in given_by(gate)])]

    def _behind(self, lane):
        """The lanes through which what a lane carries may have come, itself too."""
        place_of(self, lane)
        lanes = [lane]
        for gate in reversed(self._gates):
            if any([out in lanes for out in given_by(gate)]):
                lanes.extend(taken_by(gate))
        return lanes


def place_of(web, lane):
    """The place of a lane among the web's lanes; refused where it is none."""
    lanes = web.lanes()
    if lane not in lanes:
        raise NoLane(lane)
    return lanes.index(lane)


def is_inlet(thing):
    """Whether a thing is by itself an inlet."""
    return isinstance(thing, tuple) and len(thing) == 2 and is_name(thing[0]) and is_rhythm(thing[1])


def _check_inlets(inlets):
    """Refuses what are no inlets of a web."""
    if not are_many(inlets, 1, MOST_INLETS):
        raise NoWeb("inlets", -1)
    lanes = []
    for at, inlet in enumerate(inlets):
        if not is_inlet(inlet) or inlet[0] in lanes:
            raise NoWeb("inlets", at)
        lanes.append(inlet[0])


def _check_gates(inlets, gates):
    """Refuses what are no gates behind these inlets."""
    if not are_many(gates, 0, MOST_GATES):
        raise NoWeb("gates", -1)
    lanes = [lane for lane, _ in inlets]
    free = list(lanes)
    size = 0
    for at, gate in enumerate(gates):
        if not is_gate(gate) or not _can_stand(gate, lanes, free):
            raise NoWeb("gates", at)
        size += size_of(gate)
        if size > MOST_KEPT:
            raise NoWeb("gates", at)
        lanes.extend(given_by(gate))
        free = [lane for lane in free if lane not in taken_by(gate)] + list(given_by(gate))


def _can_stand(gate, lanes, free):
    """Whether a gate takes lanes that are free, and gives none of the lanes that are there."""
    if any([lane not in free for lane in taken_by(gate)]):
        return False
    return all([lane not in lanes for lane in given_by(gate)])
