"""Least machines: all that some lanes can ever carry, by as few stands as there can be."""

from holdgates.bones import bones_of
from holdgates.bounds import STANDS
from holdgates.courses import Course
from holdgates.feeds import takers
from holdgates.graphs import graph_of
from holdgates.likes import told_kinds
from holdgates.mazes import Marked
from holdgates.webs import place_of


def machine(web, lanes):
    """A list of rows, each of (choice, what the lanes carry, number of the row behind) for all choices."""
    places = [place_of(web, lane) for lane in lanes]
    bones_of(Course(web))
    graph = _shown_at(graph_of(Marked(web, told_kinds(web, None)), STANDS), places)
    sorts = _sorts(web, graph)
    return _rows(graph, sorts)


def _shown_at(graph, places):
    """A graph that tells just what the lanes at some places carry."""
    return {node: [(choice, tuple([carried[place] for place in places]), behind)
                   for choice, carried, behind in graph[node]] for node in graph}


def _sorts(web, graph):
    """A number for each node, one for those that can't be told apart, however they are fed."""
    shown = {node: (tuple(takers(web, node[0] + 1)), tuple([carried for _, carried, _ in graph[node]]))
             for node in graph}
    sorts = _numbered(shown)
    many = 0
    while max(sorts.values()) >= many:
        many = max(sorts.values()) + 1
        sorts = _numbered({node: (sorts[node], tuple([sorts[behind] for _, _, behind in graph[node]]))
                           for node in graph})
    return sorts


def _numbered(keys):
    """For each node a number instead of its key, the same for the same."""
    numbers = {}
    for node in keys:
        numbers.setdefault(keys[node], len(numbers))
    return {known: numbers[keys[known]] for known in keys}


def _rows(graph, sorts):
    """The machine's rows, numbered by when each sort is first come to."""
    nodes = {}
    for node in graph:
        nodes.setdefault(sorts[node], node)
    start = sorts[list(graph)[0]]
    numbers = {start: 0}
    line = [start]
    rows = []
    while len(rows) < len(line):
        row = []
        for choice, carried, behind in graph[nodes[line[len(rows)]]]:
            sort = sorts[behind]
            if sort not in numbers:
                numbers[sort] = len(line)
                line.append(sort)
            row.append((choice, carried, numbers[sort]))
        rows.append(row)
    return rows
