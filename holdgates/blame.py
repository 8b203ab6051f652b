"""Blame: which sightings no feed shows together, and what a further look would tell."""

from holdgates.bounds import DEEPEST
from holdgates.errors import NoLook
from holdgates.goings import carrying
from holdgates.sights import few_sights, sights_of
from holdgates.spans import span_over
from holdgates.things import are_rising, is_whole
from holdgates.treelooks import is_tree
from holdgates.trees import grown
from holdgates.webs import place_of


def blame(course, sightings, *, given=()):
    """(numbers, tree, feeds) of sightings that no feed shows together, though all but any one; None where one does."""
    sights = few_sights(course, sightings, given)
    tree, found = grown(sights)
    if len(found) > 0:
        return None
    left = list(range(len(sights)))
    feeds = {}
    for number in reversed(range(len(sights))):
        others = [other for other in left if other != number]
        nodes, found = grown(sights.some(others))
        if len(found) > 0:
            feeds[number] = sights.feed_within(found[0])
        else:
            left, tree = others, nodes
    return left, tree, [feeds[number] for number in left]


def shows_blame(course, sightings, thing, *, given=()):
    """Whether a thing tells rightly which sightings no feed shows together, though all but any one."""
    sights = sights_of(course, sightings, given)
    if not isinstance(thing, tuple) or len(thing) != 3 or not all([isinstance(part, list) for part in thing]):
        return False
    numbers, tree, feeds = thing
    if not _are_numbers(numbers, len(sights)) or len(feeds) != len(numbers):
        return False
    if not is_tree(sights.some(numbers), tree) or ("fits",) in tree:
        return False
    for number, feed in zip(numbers, feeds):
        others = [other for other in numbers if other != number]
        if not sights.is_cut_feed(feed) or not sights.are_shown(feed, others):
            return False
    return True


def would(course, sightings, look, *, given=()):
    """The least and the greatest number that a further look can show, None for open ends; None where no feed does."""
    sights = few_sights(course, sightings, given)
    beat, place = _looked_at(course, look)
    _, found = grown(sights)
    return span_over(course, found, beat, place)


def _are_numbers(thing, many):
    """Whether things are rising numbers of so many sightings."""
    return all([is_whole(number, 0, many - 1) for number in thing]) and are_rising(thing)


def _looked_at(course, look):
    """The beat and the lane's place of a look; refused where there is none such."""
    lanes = course.web().lanes()
    if not isinstance(look, tuple) or len(look) != 2 or not is_whole(look[0], 1, DEEPEST) or look[1] not in lanes:
        raise NoLook(look)
    beat, place = look[0], place_of(course.web(), look[1])
    if carrying(course, beat)[-1][place] is None:
        raise NoLook(look)
    return beat, place
