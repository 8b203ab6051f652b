"""The look at trees of cases."""

from holdgates.sights import is_fit, is_missed, sights_of
from holdgates.spans import halves, splits
from holdgates.things import is_any_whole, is_count, is_whole


def shows_tree(course, sightings, thing, *, given=()):
    """Whether a thing is a tree of cases for some sightings, whoever wrote it."""
    return is_tree(sights_of(course, sightings, given), thing)


def is_tree(sights, thing):
    """Whether a thing is a tree of cases for these sightings."""
    if not isinstance(thing, list) or len(thing) == 0:
        return False
    boxes = {0: sights.whole()}
    for number, node in enumerate(thing):
        if number not in boxes:
            return False
        box = boxes[number]
        if _is_split(box, node):
            left, right = node[3:]
            # A child is behind its node, and no other one's; all nodes behind this one may be.
            if left == right or not all([_is_free(boxes, child, number, len(thing)) for child in (left, right)]):
                return False
            boxes[left], boxes[right] = halves(box, node[1], node[2])
        elif not _is_leaf(sights, box, node):
            return False
    return True


def _is_free(boxes, child, number, many):
    """Whether a thing is the number of a node behind this one that has no box yet."""
    return is_whole(child, number + 1, many - 1) and child not in boxes


def _is_split(box, node):
    """Whether a thing parts a box in two that both have feeds, whatever its children are."""
    if not isinstance(node, tuple) or len(node) != 5 or node[0] != "split":
        return False
    return _is_input(box, node[1]) and is_any_whole(node[2]) and splits(box[node[1]], node[2])


def _is_input(box, thing):
    """Whether a thing is an input of which a box tells."""
    # A truth is equal to a number, and what can't be a key mustn't be asked for.
    if not isinstance(thing, tuple) or not all([is_count(part) for part in thing]):
        return False
    return thing in box


def _is_leaf(sights, box, node):
    """Whether a thing is a leaf that a box is."""
    if not isinstance(node, tuple) or len(node) == 0:
        return False
    if node[0] == "fits":
        return len(node) == 1 and all([is_fit(end) for end in sights.ends(box)])
    if node[0] != "out" or len(node) != 2 or not is_whole(node[1], 0, len(sights) - 1):
        return False
    return is_missed(sights.ends(box)[node[1]])
