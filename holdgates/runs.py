"""Runs: what the lanes carry, beat by beat."""

from holdgates.goings import first_kept, set_out
from holdgates.webs import place_of


def run(course, feed, beats):
    """For each of so many beats what the lanes carry, a tuple by lanes."""
    start = (0, first_kept(course.web()))
    return set_out(course, start, feed, beats).steps(beats)


def row_of(course, feed, beats, lane):
    """All numbers that a lane carries in a run, in order."""
    place = place_of(course.web(), lane)
    return [row[place] for row in run(course, feed, beats) if row[place] is not None]
