"""Trees of cases: all feeds parted into boxes, each of which shows all sightings, or one of them in none."""

from holdgates.bounds import MOST
from holdgates.errors import TooMany
from holdgates.sights import few_sights, is_fit, is_missed
from holdgates.spans import halves, splits


def inputs_of(course, sightings, *, given=()):
    """The inputs, (inlet, number), that go in by the last sighting's beat, but the given ones."""
    return few_sights(course, sightings, given).inputs()


def tree_of(course, sightings, *, given=()):
    """The told tree: a list of ("split", input, number, left, right), ("fits",) and ("out", number)."""
    nodes, _ = grown(few_sights(course, sightings, given))
    return nodes


def grown(sights):
    """The told tree of some sightings, and the boxes of its leaves that fit, in the order of nodes."""
    nodes, found, leaves = [], [], 0
    # Boxes yet to come to, each with the number of the node of which it is the right child, or None.
    line = [(sights.whole(), None)]
    while len(line) > 0:
        box, above = line.pop()
        number = len(nodes)
        if above is not None:
            nodes[above] = nodes[above] + (number,)
        ends = sights.ends(box)
        leaf = _leaf(ends)
        if leaf is None:
            part, cut = _split(box, ends)
            nodes.append(("split", part, cut, number + 1))
            left, right = halves(box, part, cut)
            line.append((right, number))
            line.append((left, None))
            continue
        leaves += 1
        if leaves > MOST:
            raise TooMany(MOST)
        nodes.append(leaf)
        if leaf[0] == "fits":
            found.append(box)
    return nodes, found


def _leaf(ends):
    """The leaf that a box is, by its sightings' ends, or None."""
    for number, end in enumerate(ends):
        if is_missed(end):
            return ("out", number)
    if all([is_fit(end) for end in ends]):
        return ("fits",)
    return None


def _split(box, ends):
    """The input and the number by which a box that is no leaf is parted."""
    sought = [end[0] for end in ends if not is_fit(end)][0]
    parts = [(part, cut) for cut in (sought, sought + 1) for part in box if splits(box[part], cut)]
    return parts[0]
