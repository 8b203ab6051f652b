"""Graphs: all that can be come to, the ways through it, and the knots in them.

A graph tells for each node, in the order in which they are first come to, its
moves: (choice, what lanes carry, node behind it).
"""

from holdgates.errors import TooMany
from holdgates.lots import choices_to


def graph_of(maze, most):
    """All that can be come to in a maze; refused where there are more than most nodes."""
    graph = {}
    level = [maze.start()]
    while len(level) > 0:
        found = {}
        for node in level:
            graph[node] = maze.moves(node)
            for _, _, behind in graph[node]:
                found[behind] = True
        if len(graph) > most:
            raise TooMany(most)
        level = [after for after in found if after not in graph]
    return graph


def part_to(graph, ends):
    """The part of a graph from which some of its nodes can be come to, these too."""
    found = {}
    _spread(_sources(graph), found, list(ends), True)
    return {node: [move for move in graph[node] if move[2] in found] for node in graph if node in found}


def way_to(graph, start, ends):
    """One of the ends that can be come to by the fewest beats, and the choices that lead there."""
    ways = {start: None}
    level = [start]
    while not any([known in ends for known in level]):
        found = []
        for node in level:
            for choice, _, behind in graph[node]:
                if behind not in ways:
                    ways[behind] = (node, choice)
                    found.append(behind)
        level = found
    end = [known for known in level if known in ends][0]
    return end, tuple(choices_to(ways, end))


def knots_of(graph):
    """The number of each node's knot: of those that can be come to from one another.

    Numbers rise in the order in which they are told, and no node leads to a knot
    ahead of its own.
    """
    sources = _sources(graph)
    knots = {}
    many = 0
    for node in _done_last_first(graph):
        if node not in knots:
            _spread(sources, knots, [node], many)
            many += 1
    return knots


def _sources(graph):
    """For each node of a graph those that lead to it in a beat."""
    sources = {node: [] for node in graph}
    for start in graph:
        for _, _, behind in graph[start]:
            sources[behind].append(start)
    return sources


def _spread(sources, marks, starts, mark):
    """Marks some nodes, and all that lead to them and have no mark yet."""
    line = list(starts)
    for start in starts:
        marks[start] = mark
    while len(line) > 0:
        node = line.pop()
        for source in sources[node]:
            if source not in marks:
                marks[source] = mark
                line.append(source)


def _done_last_first(graph):
    """The nodes, those first with which a going into the depth is done last."""
    seen, done = {}, []
    for start in graph:
        if start not in seen:
            seen[start] = True
            _go_deep(graph, seen, done, start)
    return done[::-1]


def _go_deep(graph, seen, done, start):
    """Goes into the depth from a node, through those that weren't seen; done gets each once all behind it are done."""
    line = [(start, 0)]
    while len(line) > 0:
        node, at = line.pop()
        if at == len(graph[node]):
            done.append(node)
        else:
            line.append((node, at + 1))
            behind = graph[node][at][2]
            if behind not in seen:
                seen[behind] = True
                line.append((behind, 0))
