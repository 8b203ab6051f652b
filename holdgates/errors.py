"""Refusals, each with the fields that it was made of, copied."""

from holdgates.things import copied


class NoWeb(ValueError):
    """Refused: what makes no web: which field, and the place in it."""

    def __init__(self, field, at):
        ValueError.__init__(self, "what makes no web: which field, and the place in it")
        self.field = copied(field)
        self.at = copied(at)


class NoCourse(ValueError):
    """Refused: what makes no course."""

    def __init__(self, field):
        ValueError.__init__(self, "what makes no course")
        self.field = copied(field)


class NoFeed(ValueError):
    """Refused: what is no feed of a web."""

    def __init__(self, inlet):
        ValueError.__init__(self, "what is no feed of a web")
        self.inlet = copied(inlet)


class NoRounds(ValueError):
    """Refused: what are no numbers that come round."""

    def __init__(self, inlet):
        ValueError.__init__(self, "what are no numbers that come round")
        self.inlet = copied(inlet)


class NoBounds(ValueError):
    """Refused: what are no bounds of a web."""

    def __init__(self, inlet):
        ValueError.__init__(self, "what are no bounds of a web")
        self.inlet = copied(inlet)


class NoStand(ValueError):
    """Refused: what is no stand of a web."""

    def __init__(self):
        ValueError.__init__(self, "what is no stand of a web")


class NoNames(ValueError):
    """Refused: what are no names for lanes."""

    def __init__(self, asked):
        ValueError.__init__(self, "what are no names for lanes")
        self.asked = copied(asked)


class LikeLane(ValueError):
    """Refused: a lane that two webs have."""

    def __init__(self, lane):
        ValueError.__init__(self, "a lane that two webs have")
        self.lane = copied(lane)


class OtherInlets(ValueError):
    """Refused: webs of unlike inlets."""

    def __init__(self):
        ValueError.__init__(self, "webs of unlike inlets")


class NoKind(ValueError):
    """Refused: what is no kind of feeds."""

    def __init__(self, asked):
        ValueError.__init__(self, "what is no kind of feeds")
        self.asked = copied(asked)


class NoSight(ValueError):
    """Refused: what is no sighting."""

    def __init__(self, number):
        ValueError.__init__(self, "what is no sighting")
        self.number = copied(number)


class NoGiven(ValueError):
    """Refused: what is no given number."""

    def __init__(self, number):
        ValueError.__init__(self, "what is no given number")
        self.number = copied(number)


class NoLook(ValueError):
    """Refused: what is no look."""

    def __init__(self, look):
        ValueError.__init__(self, "what is no look")
        self.look = copied(look)


class NoDeed(ValueError):
    """Refused: what is no deed."""

    def __init__(self, nth):
        ValueError.__init__(self, "what is no deed")
        self.nth = copied(nth)


class NoAsk(ValueError):
    """Refused: what is no row for a desk."""

    def __init__(self, row):
        ValueError.__init__(self, "what is no row for a desk")
        self.row = copied(row)


class Unread(ValueError):
    """Refused: a text that can't be read."""

    def __init__(self, row):
        ValueError.__init__(self, "a text that can't be read")
        self.row = copied(row)


class NoLane(KeyError):
    """Refused: what is no lane."""

    def __init__(self, lane):
        KeyError.__init__(self, "what is no lane")
        self.lane = copied(lane)


class NoName(KeyError):
    """Refused: a name that isn't there."""

    def __init__(self, name):
        KeyError.__init__(self, "a name that isn't there")
        self.name = copied(name)


class NoInput(KeyError):
    """Refused: what is no hidden number's place."""

    def __init__(self, inlet, nth):
        KeyError.__init__(self, "what is no hidden number's place")
        self.inlet = copied(inlet)
        self.nth = copied(nth)


class NoInlet(KeyError):
    """Refused: what is no inlet."""

    def __init__(self, inlet):
        KeyError.__init__(self, "what is no inlet")
        self.inlet = copied(inlet)


class NoGate(KeyError):
    """Refused: what is no gate that can be lifted."""

    def __init__(self, gate):
        KeyError.__init__(self, "what is no gate that can be lifted")
        self.gate = copied(gate)


class NoToken(LookupError):
    """Refused: a lane that carries nothing then."""

    def __init__(self, lane):
        LookupError.__init__(self, "a lane that carries nothing then")
        self.lane = copied(lane)


class Taken(LookupError):
    """Refused: a new name that is there."""

    def __init__(self, name):
        LookupError.__init__(self, "a new name that is there")
        self.name = copied(name)


class Needed(LookupError):
    """Refused: a web that has streams."""

    def __init__(self, name):
        LookupError.__init__(self, "a web that has streams")
        self.name = copied(name)


class NoBeat(IndexError):
    """Refused: what is no beat that can be asked for."""

    def __init__(self, beat):
        IndexError.__init__(self, "what is no beat that can be asked for")
        self.beat = copied(beat)


class Jams(RuntimeError):
    """Refused: a join that keeps too much."""

    def __init__(self, beat):
        RuntimeError.__init__(self, "a join that keeps too much")
        self.beat = copied(beat)


class Full(RuntimeError):
    """Refused: more than there is room for."""

    def __init__(self, most):
        RuntimeError.__init__(self, "more than there is room for")
        self.most = copied(most)


class Unseen(RuntimeError):
    """Refused: looks that no numbers let be."""

    def __init__(self, name):
        RuntimeError.__init__(self, "looks that no numbers let be")
        self.name = copied(name)


class Unfit(RuntimeError):
    """Refused: a web that doesn't fit."""

    def __init__(self, name):
        RuntimeError.__init__(self, "a web that doesn't fit")
        self.name = copied(name)


class Hidden(RuntimeError):
    """Refused: what hangs on hidden numbers."""

    def __init__(self, name):
        RuntimeError.__init__(self, "what hangs on hidden numbers")
        self.name = copied(name)


class TooLong(ArithmeticError):
    """Refused: more beats than are gone through."""

    def __init__(self, most):
        ArithmeticError.__init__(self, "more beats than are gone through")
        self.most = copied(most)


class TooMany(ArithmeticError):
    """Refused: more than are told."""

    def __init__(self, many):
        ArithmeticError.__init__(self, "more than are told")
        self.many = copied(many)


class Due(ArithmeticError):
    """Refused: another count than the numbers that are due."""

    def __init__(self, many):
        ArithmeticError.__init__(self, "another count than the numbers that are due")
        self.many = copied(many)
