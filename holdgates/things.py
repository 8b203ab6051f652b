"""What is asked of plain things everywhere: numbers, rows of parts, copies, texts that come again."""

FARTHEST = 10 ** 60
GREATEST = 10 ** 12


def is_whole(thing, least, most):
    """Whether a thing is a whole number, and no truth, from least to most."""
    return isinstance(thing, int) and not isinstance(thing, bool) and least <= thing <= most


def is_count(thing):
    """Whether a thing is a whole number from 0 on."""
    return isinstance(thing, int) and not isinstance(thing, bool) and thing >= 0


def is_bit(thing):
    """Whether a thing is a nought or a one."""
    return is_whole(thing, 0, 1)


def is_number(thing):
    """Whether a thing is a number that can be fed."""
    return is_whole(thing, -GREATEST, GREATEST)


def is_beat(thing):
    """Whether a thing is a beat."""
    return is_whole(thing, 0, FARTHEST)


def are_numbers(thing, least, most):
    """Whether a thing is a tuple of least to most numbers that can be fed."""
    if not isinstance(thing, tuple) or not least <= len(thing) <= most:
        return False
    return all([is_number(part) for part in thing])


def are_many(thing, least, most):
    """Whether a thing is a list or tuple of least to most parts."""
    return isinstance(thing, (list, tuple)) and least <= len(thing) <= most


def first_wrong(thing, many, is_part):
    """-1 of what is no list or tuple of so many, else the place of the first that is no part, or None."""
    if not are_many(thing, many, many):
        return -1
    for at, part in enumerate(thing):
        if not is_part(part):
            return at
    return None


def copied(thing):
    """A copy of a thing, within its lists, tuples and dicts too; things of the interface stay as they are."""
    if isinstance(thing, tuple):
        return tuple([copied(part) for part in thing])
    if isinstance(thing, list):
        return [copied(part) for part in thing]
    if isinstance(thing, dict):
        return {key: copied(thing[key]) for key in thing}
    return thing


def root(text):
    """The least text of which a text is made by repeating it whole."""
    for length in range(1, len(text)):
        if text[:length] * (len(text) // length) == text:
            return text[:length]
    return text
