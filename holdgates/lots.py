"""Lots: all that can be come to, beat by beat, and the choices that lead there.

A maze is what is gone through. Its start() is a node; moves(node) tells, for each
choice of the next beat, (choice, flaw, node behind it), flaw a number where the
beat shows what isn't to be, else None; is_node(thing) tells whether a thing has a
node's form.
"""

from holdgates.errors import TooMany
from holdgates.feeds import takers


def search(maze, most):
    """(None, lot) of all that can be come to, or (flaw, choices): the least flaw at the first beat that has one.

    Refused where more than most nodes are come to by fewer beats, where most isn't None.
    """
    ways = {maze.start(): None}
    level = [maze.start()]
    while len(level) > 0:
        if most is not None and len(ways) > most:
            raise TooMany(most)
        flaw, choices, level = _next_level(maze, ways, level)
        if flaw is not None:
            return flaw, choices
    return None, list(ways)


def is_lot(maze, thing):
    """Whether a thing is a list of nodes alone, each once, the start too, and none leads out of it, or to a flaw."""
    if not isinstance(thing, list):
        return False
    lot = {}
    for node in thing:
        if not maze.is_node(node) or node in lot:
            return False
        lot[node] = True
    if maze.start() not in lot:
        return False
    for node in thing:
        if any([flaw is not None or behind not in lot for _, flaw, behind in maze.moves(node)]):
            return False
    return True


def choices_to(ways, node):
    """The choices that lead to a node: ways tell of each the one ahead of it and the choice, of the first None."""
    choices = []
    while ways[node] is not None:
        node, choice = ways[node]
        choices.append(choice)
    return choices[::-1]


def feed_of(web, choices):
    """The feed that goes in by choices, beat by beat."""
    rows = [[] for _ in web.inlets()]
    for number, choice in enumerate(choices):
        for inlet, bit in zip(takers(web, number + 1), choice):
            rows[inlet].append(bit)
    return tuple([tuple(row) for row in rows])


def _next_level(maze, ways, level):
    """(least flaw, choices that lead to it, None) of the next beat, or (None, None, the nodes first come to)."""
    least, found = None, []
    for node in level:
        for choice, flaw, behind in maze.moves(node):
            if flaw is not None and (least is None or flaw < least[0]):
                least = (flaw, node, choice)
            if behind not in ways:
                ways[behind] = (node, choice)
                found.append(behind)
    if least is None:
        return None, None, found
    flaw, node, choice = least
    return flaw, choices_to(ways, node) + [choice], None
