"""What is asked of plain things everywhere: numbers, rows of parts, copies, texts that come again."""

FARTHEST = 10 ** 60
GREATEST = 10 ** 12


class Changing:
    """What changes by what it is told: who keeps it keeps another one that stands alike."""

    def copied(self):
        """Another one that stands alike."""
        raise NotImplementedError("each class that changes tells its own copies")


def is_any_whole(thing):
    """Whether a thing is a whole number, and no truth."""
    return isinstance(thing, int) and not isinstance(thing, bool)


def is_whole(thing, least, most):
    """Whether a thing is a whole number from least to most."""
    return is_any_whole(thing) and least <= thing <= most


def is_count(thing):
    """Whether a thing is a whole number from 0 on."""
    return is_any_whole(thing) and thing >= 0


def is_bit(thing):
    """Whether a thing is a nought or a one."""
    return is_whole(thing, 0, 1)


def is_number(thing):
    """Whether a thing is a number that can be fed."""
    return is_whole(thing, -GREATEST, GREATEST)


def is_beat(thing):
    """Whether a thing is a beat."""
    return is_whole(thing, 0, FARTHEST)


def are_numbers(thing, least, most):
    """Whether a thing is a tuple of least to most numbers that can be fed."""
    if not isinstance(thing, tuple) or not least <= len(thing) <= most:
        return False
    return all([is_number(part) for part in thing])


def are_many(thing, least, most):
    """Whether a thing is a list or tuple of least to most parts."""
    return isinstance(thing, (list, tuple)) and least <= len(thing) <= most


def are_rising(parts):
    """Whether each part is more than the one ahead of it."""
    return all([parts[at] < parts[at + 1] for at in range(len(parts) - 1)])


def first_wrong(thing, least, most, is_part):
    """-1 of what is no list or tuple of least to most, else the place of the first that is no part, or None."""
    if not are_many(thing, least, most):
        return -1
    for at, part in enumerate(thing):
        if not is_part(part):
            return at
    return None


def copied(thing):
    """A copy of a thing, within its lists, tuples and dicts too; what never changes stays as it is."""
    if isinstance(thing, Changing):
        return thing.copied()
    if isinstance(thing, tuple):
        return tuple([copied(part) for part in thing])
    if isinstance(thing, list):
        return [copied(part) for part in thing]
    if isinstance(thing, dict):
        return {key: copied(thing[key]) for key in thing}
    return thing


def root(text):
    """The least text of which a text is made by repeating it whole."""
    for length in range(1, len(text)):
        if text[:length] * (len(text) // length) == text:
            return text[:length]
    return text
