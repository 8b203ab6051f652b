"""Greatest kinds: up to which kind of feeds a lane rises."""

from holdgates.bones import bones_of
from holdgates.courses import Course
from holdgates.errors import NoInlet
from holdgates.likes import MOST_KIND, told_kinds
from holdgates.riselooks import shows_rises
from holdgates.rises import rises
from holdgates.things import is_whole
from holdgates.webs import place_of

# The kinds of one inlet, from the least to the greatest.
LADDER = (0, 1, 2, 3, 4, 5, 6, 7, 8, None)


def greatest_kind(web, lane):
    """(kind, rise, fall): the greatest kind, the same at all inlets, for which a lane rises."""
    return _greatest(web, lane, _all_alike(web))


def greatest_at(web, lane, inlet, *, kinds=None):
    """(kind, rise, fall): the greatest kind at one inlet, amid told ones, for which a lane rises."""
    return _greatest(web, lane, _amid_others(web, lane, inlet, kinds))


def shows_greatest(web, lane, thing):
    """Whether a thing tells rightly the greatest kind, the same at all inlets, for which a lane rises."""
    return _is_greatest(web, lane, _all_alike(web), thing)


def shows_greatest_at(web, lane, inlet, thing, *, kinds=None):
    """Whether a thing tells rightly the greatest kind at one inlet, amid told ones, for which a lane rises."""
    return _is_greatest(web, lane, _amid_others(web, lane, inlet, kinds), thing)


def _all_alike(web):
    """The ladder of kinds that are the same at all inlets."""
    return [(kind,) * len(web.inlets()) for kind in LADDER]


def _amid_others(web, lane, inlet, kinds):
    """The ladder of kinds at one inlet, amid told ones; refused where there is no such lane, kind or inlet."""
    place_of(web, lane)
    told = told_kinds(web, kinds)
    if not is_whole(inlet, 0, len(told) - 1):
        raise NoInlet(inlet)
    return [told[:inlet] + (kind,) + told[inlet + 1:] for kind in LADDER]


def _greatest(web, lane, ladder):
    """(kind, rise, fall) of the last kind of a ladder for which a lane rises."""
    kind, rise = "never", None
    for step, kinds in zip(LADDER, ladder):
        told = rises(web, lane, kinds=kinds)
        if told[0] == "falls":
            return kind, rise, told
        kind, rise = step, told
    return kind, rise, None


def _is_greatest(web, lane, ladder, thing):
    """Whether a thing tells rightly the last kind of a ladder for which a lane rises."""
    place_of(web, lane)
    bones_of(Course(web))
    if not isinstance(thing, tuple) or len(thing) != 3:
        return False
    kind, rise, fall = thing
    many = _steps_to(kind)
    if many is None:
        return False
    return _is_step(web, lane, ladder, many - 1, "rises", rise) and _is_step(web, lane, ladder, many, "falls", fall)


def _steps_to(thing):
    """How many steps of a ladder lead up to a kind, "never" being ahead of all; None of what is no kind."""
    if thing is None:
        return len(LADDER)
    if is_whole(thing, 0, MOST_KIND):
        return thing + 1
    return 0 if thing == "never" else None


def _is_step(web, lane, ladder, at, word, thing):
    """Whether a thing tells rightly, by this word, whether a lane rises at a step of a ladder; None off its ends."""
    if not 0 <= at < len(ladder):
        return thing is None
    return shows_rises(web, lane, thing, kinds=ladder[at]) and thing[0] == word
