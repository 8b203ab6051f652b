"""Small stands: what gates keep of noughts and ones, and the beats that lead on from there."""

from holdgates.feeds import takers
from holdgates.goings import first_kept
from holdgates.stands import is_stand
from holdgates.steps import one_beat, tokens_kept
from holdgates.things import is_bit


def first_small(web):
    """The first small stand: nothing is kept."""
    return 0, first_kept(web)


def choices(web, small):
    """All tuples of a nought or a one for each inlet that takes at the next beat, rising."""
    found = [()]
    for _ in takers(web, small[0] + 1):
        found = [choice + (bit,) for choice in found for bit in (0, 1)]
    return found


def small_next(web, small, choice):
    """The small stand behind the next beat, and what the lanes carry in it."""
    return Beats(web).on(small, choice)


def is_small(web, thing):
    """Whether a thing has the form of a small stand of a web, no gate keeping more than its c."""
    if not is_stand(web, thing) or thing[0] >= web.common():
        return False
    parts = [tokens_kept(gate, kept) for gate, kept in zip(web.gates(), thing[1])]
    return all([is_bit(token) for tokens in parts for token in tokens])


class Beats:
    """The beats of a web that lead on from small stands."""

    def __init__(self, web):
        self._gates = web.gates()
        self._lanes = [lane for lane, _ in web.inlets()]
        self._takers = [takers(web, rest + 1) for rest in range(web.common())]
        self._lifted = [False] * len(web)

    def takers(self, rest):
        """The numbers of the inlets that take at the beat behind a rest."""
        return self._takers[rest]

    def on(self, small, choice):
        """The small stand behind the next beat, and what the lanes carry in it."""
        rest, kept = small
        carried = {lane: None for lane in self._lanes}
        for inlet, bit in zip(self._takers[rest], choice):
            carried[self._lanes[inlet]] = bit
        kept = one_beat(self._gates, kept, carried, self._lifted)
        return ((rest + 1) % len(self._takers), kept), tuple(carried.values())
