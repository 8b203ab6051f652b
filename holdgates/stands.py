"""Stands: what the gates keep behind a beat, and runs that go on from there."""

from holdgates.errors import NoStand
from holdgates.feeds import check_feed, times_by
from holdgates.gates import told_of
from holdgates.goings import first_kept, set_out
from holdgates.things import are_numbers, is_beat, is_number, is_whole


def first_stand(web):
    """The stand behind no beat."""
    return 0, first_kept(web)


def stand(course, feed, beats):
    """The stand behind so many beats of a feed."""
    going = set_out(course, first_stand(course.web()), feed, beats)
    going.steps(beats)
    return going.stand()


def is_stand(web, thing):
    """Whether a thing has the form of a stand of a web."""
    if not isinstance(thing, tuple) or len(thing) != 2 or not is_beat(thing[0]):
        return False
    gates, kept = web.gates(), thing[1]
    if not isinstance(kept, tuple) or len(kept) != len(gates):
        return False
    return all([_can_keep(gate, part) for gate, part in zip(gates, kept)])


def left(web, feed, beat):
    """Each row of a feed without the numbers that went in up to a beat."""
    check_feed(web, feed)
    return tuple([row[many:] for row, many in zip(feed, times_by(web, beat))])


def go_on(course, stand, feed, beats):
    """The run of so many beats from a stand on, by what is left of a feed, and the stand behind it."""
    if not is_stand(course.web(), stand):
        raise NoStand()
    going = set_out(course, stand, feed, beats)
    rows = going.steps(beats)
    return rows, going.stand()


def _can_keep(gate, thing):
    """Whether a thing has the form of what a gate keeps."""
    word, told = gate[0], told_of(gate)
    if word == "cross":
        return isinstance(thing, tuple) and len(thing) == 0
    if word == "deal":
        return isinstance(thing, tuple) and len(thing) == 1 and is_whole(thing[0], 0, len(told[0]) - 1)
    if word == "lag":
        return isinstance(thing, tuple) and len(thing) == told[0] and all([_can_go(part) for part in thing])
    return are_numbers(thing, 0, told[0]) and (word != "hold" or _rises(thing))


def _can_go(thing):
    """Whether a thing is a token, or none."""
    return thing is None or is_number(thing)


def _rises(tokens):
    """Whether none of the tokens is less than the one ahead."""
    return all([tokens[at] <= tokens[at + 1] for at in range(len(tokens) - 1)])
