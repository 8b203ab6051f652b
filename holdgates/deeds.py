"""Deeds: what can be done in a yard, by their form alone."""

from holdgates.courses import is_word
from holdgates.names import is_name
from holdgates.things import is_any_whole, is_number
from holdgates.webs import Web

# What stands behind a deed's word.
FORMS = {
    "web": ("name", "web"),
    "stream": ("name", "name"),
    "step": ("name", "pushed"),
    "lift": ("name", "whole", "word"),
    "look": ("name", "name", "number"),
    "tell": ("name", "whole", "whole", "number"),
    "twin": ("name", "name"),
    "change": ("name", "web"),
    "drop": ("name",),
}


def is_deed(thing):
    """Whether a thing is a deed."""
    if not isinstance(thing, tuple) or len(thing) == 0:
        return False
    if not isinstance(thing[0], str) or thing[0] not in FORMS:
        return False
    form = FORMS[thing[0]]
    return len(thing) == 1 + len(form) and all([_is_of(kind, part) for kind, part in zip(form, thing[1:])])


def _is_of(kind, thing):
    """Whether a thing is of a kind that forms tell."""
    if kind == "name":
        return is_name(thing)
    if kind == "whole":
        return is_any_whole(thing)
    if kind == "number":
        return is_number(thing)
    if kind == "word":
        return is_word(thing)
    if kind == "pushed":
        return isinstance(thing, tuple) and all([part is None or is_number(part) for part in thing])
    return isinstance(thing, Web)
