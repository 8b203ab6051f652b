"""Names of lanes, and rhythms: at which beats something comes."""

LETTERS = "abcdefghijklmnopqrstuvwxyz"
LONGEST_NAME = 8
LONGEST_RHYTHM = 6


def is_made_of(thing, signs, most):
    """Whether a thing is a text of one to so many of the signs."""
    if not isinstance(thing, str) or not 1 <= len(thing) <= most:
        return False
    return all([sign in signs for sign in thing])


def is_name(thing):
    """Whether a thing is a name: one to eight small letters."""
    return is_made_of(thing, LETTERS, LONGEST_NAME)


def is_rhythm(thing):
    """Whether a thing is a rhythm: one to six of x and -, one x at least."""
    return is_made_of(thing, "x-", LONGEST_RHYTHM) and "x" in thing


def takes(rhythm, beat):
    """Whether something comes by a rhythm at a beat."""
    return beat >= 1 and rhythm[(beat - 1) % len(rhythm)] == "x"


def times_of(rhythm, beat):
    """How many times something comes by a rhythm up to a beat."""
    rounds, rest = divmod(beat, len(rhythm))
    return rounds * rhythm.count("x") + rhythm[:rest].count("x")


def beat_of(rhythm, number):
    """The beat at which something comes by a rhythm for the time of this number, from 0."""
    beats = [place + 1 for place, sign in enumerate(rhythm) if sign == "x"]
    rounds, rest = divmod(number, len(beats))
    return rounds * len(rhythm) + beats[rest]
