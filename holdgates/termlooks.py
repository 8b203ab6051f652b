"""The look at least of greatest. A set of inputs is a number here, each input having a bit of it."""

from holdgates.feeds import times_by
from holdgates.goings import rows_by
from holdgates.terms import inputs_at
from holdgates.things import are_rising, is_count
from holdgates.webs import place_of


def shows_term(course, lane, beat, thing):
    """Whether a thing tells rightly the least sets of inputs that bring a number or more, and those of it or less."""
    parts = {part: 1 << at for at, part in enumerate(inputs_at(course, lane, beat))}
    if not isinstance(thing, tuple) or len(thing) != 2 or not all([_are_sets(parts, sets) for sets in thing]):
        return False
    highs, lows = [[sum([parts[part] for part in told]) for told in sets] for sets in thing]
    brought = Brought(course, lane, beat, parts)
    if not all([brought.turns(high, high, 1) for high in highs]):
        return False
    whole = (1 << len(parts)) - 1
    if not all([brought.turns(whole - low, low, 0) for low in lows]):
        return False
    # Each low meets all highs now; so a least set that meets them and is no low would hold none, either.
    return not _can_meet(highs, lows)


class Brought:
    """What a lane carries at a beat where just some inputs are ones."""

    def __init__(self, course, lane, beat, parts):
        self._course = course
        self._place = place_of(course.web(), lane)
        self._beat = beat
        self._parts = parts

    def turns(self, ones, told, token):
        """Whether some ones bring a token, and the other one where any one of the told inputs is otherwise."""
        if self._token(ones) != token:
            return False
        return all([self._token(ones ^ bit) == 1 - token for bit in _bits(told)])

    def _token(self, ones):
        """What the lane carries by these ones, all others being noughts."""
        feed = []
        for inlet, times in enumerate(times_by(self._course.web(), self._beat)):
            bits = [self._parts.get((inlet, at), 0) for at in range(times)]
            feed.append(tuple([1 if ones & bit > 0 else 0 for bit in bits]))
        return rows_by(self._course, tuple(feed), self._beat)[-1][self._place]


def _are_sets(parts, thing):
    """Whether a thing is a rising list of sets of inputs."""
    return isinstance(thing, list) and all([_is_set(parts, part) for part in thing]) and are_rising(thing)


def _is_set(parts, thing):
    """Whether a thing is a rising tuple of inputs."""
    return isinstance(thing, tuple) and all([_is_input(parts, part) for part in thing]) and are_rising(thing)


def _is_input(parts, thing):
    """Whether a thing is one of the inputs."""
    # A truth is equal to a number, and what can't be a key mustn't be asked for.
    if not isinstance(thing, tuple) or not all([is_count(part) for part in thing]):
        return False
    return thing in parts


def _bits(told):
    """The inputs of a set, a bit for each."""
    return [1 << at for at in range(told.bit_length()) if told >> at & 1 == 1]


def _can_meet(highs, lows):
    """Whether some set of inputs meets all highs and holds no low whole."""
    if 0 in highs or 0 in lows:
        return False
    if len(highs) == 0 or len(lows) == 0:
        return True
    bit = _busiest(highs + lows)
    met = [high for high in highs if high & bit == 0]
    kept = [low for low in lows if low & bit == 0]
    if _can_meet(met, [low - (low & bit) for low in lows]):
        return True
    return _can_meet([high - (high & bit) for high in highs], kept)


def _busiest(sets):
    """The input of the smallest of some sets that is in the most of them."""
    bits = min([_bits(told) for told in sets], key=len)
    counts = [(len([told for told in sets if told & bit > 0]), bit) for bit in bits]
    return max(counts)[1]
