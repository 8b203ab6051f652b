"""What gates do in a beat. What a gate keeps is a tuple, as a stand tells it.

Each action is passed what is told of its gate behind the lanes, what the gate
keeps, what came by its lanes, and whether it is lifted. It returns what the gate
keeps then, and what goes on by the lanes that it gives.
"""

from holdgates.gates import given_by, taken_by, told_of


def nothing_kept(gate):
    """What a gate keeps ahead of the first beat."""
    if gate[0] == "lag":
        return (None,) * told_of(gate)[0]
    if gate[0] == "deal":
        return (0,)
    return ()


def tokens_kept(gate, kept):
    """The tokens among what a gate keeps."""
    if gate[0] == "deal":
        return []
    return [token for token in kept if token is not None]


def jams(gates, kept):
    """Whether a join keeps more than its c."""
    return any([gate[0] == "join" and len(part) > told_of(gate)[0] for gate, part in zip(gates, kept)])


def one_beat(gates, kept, carried, lifted):
    """What the gates keep behind a beat.

    carried tells by lanes what the inlets carry, and is told what the gates give;
    lifted tells by gates whether they are lifted.
    """
    parts = []
    for at, gate in enumerate(gates):
        action = ACTIONS[gate[0]]
        came = tuple([carried[lane] for lane in taken_by(gate)])
        part, gone = action(told_of(gate), kept[at], came, lifted[at])
        parts.append(part)
        for lane, token in zip(given_by(gate), gone):
            carried[lane] = token
    return tuple(parts)


def _hold(told, kept, came, lifted):
    most, rank = told
    if lifted or came[0] is None:
        return kept, came
    tokens = sorted(kept + came)
    if len(kept) < most:
        return tuple(tokens), (None,)
    gone = tokens.pop(rank)
    return tuple(tokens), (gone,)


def _wait(told, kept, came, lifted):
    if lifted or came[0] is None:
        return kept, came
    tokens = kept + came
    if len(kept) < told[0]:
        return tokens, (None,)
    return tokens[1:], tokens[:1]


def _lag(told, kept, came, lifted):
    tokens = kept + came
    return tokens[1:], tokens[:1]


def _deal(told, kept, came, lifted):
    if came[0] is None:
        return kept, (None, None)
    text, place = told[0], kept[0]
    behind = ((place + 1) % len(text),)
    if text[place] == "l":
        return behind, (came[0], None)
    return behind, (None, came[0])


def _join(told, kept, came, lifted):
    tokens = kept + tuple([token for token in came if token is not None])
    if len(tokens) == 0:
        return tokens, (None,)
    return tokens[1:], tokens[:1]


def _cross(told, kept, came, lifted):
    one, other = came
    if lifted or one is None or other is None or one <= other:
        return kept, came
    return kept, (other, one)


ACTIONS = {"hold": _hold, "wait": _wait, "lag": _lag, "deal": _deal, "join": _join, "cross": _cross}
