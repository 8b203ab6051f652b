"""Least of greatest: which inputs make what a lane carries at a beat."""

from holdgates.bounds import DEEPEST, INPUTS, MOST
from holdgates.errors import NoBeat, NoToken, TooMany
from holdgates.feeds import takers, times_by
from holdgates.goings import carrying, first_kept
from holdgates.steps import one_beat
from holdgates.things import is_whole
from holdgates.webs import place_of


def hangs_on(course, lane, beat):
    """The inputs, (inlet, number), that are fed by a beat and from which a lane can be come to, rising."""
    found = inputs_at(course, lane, beat)
    if len(found) > INPUTS:
        raise TooMany(INPUTS)
    return found


def inputs_at(course, lane, beat):
    """What a lane hangs on at a beat, however many these are."""
    web = course.web()
    place = place_of(web, lane)
    if not is_whole(beat, 1, DEEPEST):
        raise NoBeat(beat)
    if carrying(course, beat)[-1][place] is None:
        raise NoToken(lane)
    times = times_by(web, beat)
    return [(inlet, number) for inlet in web.sources(lane) for number in range(times[inlet])]


def term(course, lane, beat):
    """(highs, lows): the least sets of inputs that bring a number or more, and those that bring it or less."""
    inputs = hangs_on(course, lane, beat)
    ones = _ones(course, lane, beat, inputs)
    # A set of noughts amid ones leaves just the others as ones.
    noughts = [not brings for brings in reversed(ones)]
    return _least_sets(inputs, ones), _least_sets(inputs, noughts)


def by_term(highs, feed):
    """The number that the lane carries by a feed."""
    return max([min([feed[inlet][number] for inlet, number in high]) for high in highs])


def can_come(highs):
    """The inputs that can come out, rising."""
    return sorted(set([part for high in highs for part in high]))


def _least_sets(inputs, table):
    """The sets of inputs that a table tells True of, and of none that lacks one of theirs; refused where too many."""
    found = []
    for bits, told in enumerate(table):
        members = [at for at in range(len(inputs)) if bits >> at & 1 == 1]
        if told and not any([table[bits - (1 << at)] for at in members]):
            found.append(tuple([inputs[at] for at in members]))
    if len(found) > MOST:
        raise TooMany(MOST)
    return sorted(found)


def _ones(course, lane, beat, inputs):
    """For each set of inputs, by its bits, whether the lane carries a one where these alone are ones."""
    # Sets of inputs that lead to the same go on together: by what gates keep and what the lane carries.
    groups = {(first_kept(course.web()), None): [0]}
    for now in range(1, beat + 1):
        groups = _next_groups(course, lane, now, groups, inputs)
    table = [False] * (1 << len(inputs))
    for kept, token in groups:
        if token == 1:
            for bits in groups[(kept, token)]:
                table[bits] = True
    return table


def _next_groups(course, lane, now, groups, inputs):
    """The groups behind a beat, by those behind the one ahead of it."""
    web = course.web()
    lanes = [name for name, _ in web.inlets()]
    lifted = [course.is_lifted(gate, now) for gate in range(len(web))]
    fed = _fed(web, now, inputs)
    found = {}
    for kept, token in groups:
        for more, tokens in fed:
            carried = {name: part for name, part in zip(lanes, tokens)}
            behind = one_beat(web.gates(), kept, carried, lifted)
            sets = found.setdefault((behind, carried[lane]), [])
            sets.extend([bits | more for bits in groups[(kept, token)]])
    return found


def _fed(web, now, inputs):
    """What can come at a beat: (bits of the inputs that are ones, tokens by inlets); of what is no input a nought."""
    times = times_by(web, now)
    found = [(0, (None,) * len(times))]
    for inlet in takers(web, now):
        part = (inlet, times[inlet] - 1)
        ways = [(0, 0)]
        if part in inputs:
            ways.append((1 << inputs.index(part), 1))
        found = [(bits | more, tokens[:inlet] + (token,) + tokens[inlet + 1:])
                 for bits, tokens in found for more, token in ways]
    return found
