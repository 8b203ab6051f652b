"""Sightings: that lanes carried these numbers at these beats, where some inputs' numbers are given."""

from holdgates.bounds import DEEPEST, INPUTS
from holdgates.errors import NoGiven, NoSight, TooMany
from holdgates.feeds import times_by
from holdgates.goings import carrying, rows_by
from holdgates.spans import ANY, ends_by, inputs_by, some_number
from holdgates.things import first_wrong, is_any_whole, is_number, is_whole
from holdgates.webs import place_of

MOST_SIGHTINGS = 8


def sights_of(course, sightings, given):
    """The sightings of a course with given numbers; refused where these are none."""
    web = course.web()
    number = first_wrong(sightings, 0, MOST_SIGHTINGS, lambda part: _is_sighting(web, part))
    if number is not None:
        raise NoSight(number)
    _check_carried(course, sightings)
    _check_given(web, _last_of(sightings), given)
    return Sights(course, sightings, given)


def few_sights(course, sightings, given):
    """The sightings of a course; refused as well where they hang on more than INPUTS inputs."""
    sights = sights_of(course, sightings, given)
    if len(sights.inputs()) > INPUTS:
        raise TooMany(INPUTS)
    return sights


class Sights:
    """Sightings of a course, with the given numbers that go in by the last one's beat."""

    def __init__(self, course, sightings, given):
        self._course = course
        self._sightings = list(sightings)
        self._last = _last_of(self._sightings)
        times = times_by(course.web(), self._last)
        self._given = [(inlet, at, number) for inlet, at, number in given if at < times[inlet]]

    def __len__(self):
        return len(self._sightings)

    def some(self, numbers):
        """Those sightings that have these numbers, alone."""
        return Sights(self._course, [self._sightings[number] for number in numbers], self._given)

    def whole(self):
        """The box of all feeds: the given inputs have but one number."""
        box = {part: ANY for part in inputs_by(self._course.web(), self._last)}
        for inlet, at, number in self._given:
            box[(inlet, at)] = (number, number)
        return box

    def inputs(self):
        """The inputs that go in by the last beat, but the given ones."""
        given = {(inlet, at): True for inlet, at, _ in self._given}
        return [part for part in inputs_by(self._course.web(), self._last) if part not in given]

    def ends(self, box):
        """For each sighting its number, and the least and the greatest end that its lane can carry by a box."""
        web = self._course.web()
        lows, highs = ends_by(self._course, box, self._last)
        found = []
        for beat, lane, number in self._sightings:
            place = place_of(web, lane)
            found.append((number, lows[beat - 1][place], highs[beat - 1][place]))
        return found

    def feed_within(self, box):
        """A feed within a box, cut at the last beat; what the box doesn't tell of is given, or any number."""
        whole = self.whole()
        rows = [[] for _ in self._course.web().inlets()]
        for part in whole:
            rows[part[0]].append(some_number(box.get(part, whole[part])))
        return tuple([tuple(row) for row in rows])

    def is_cut_feed(self, thing):
        """Whether a thing is a feed of any whole numbers, the given ones too, cut at the last beat."""
        times = times_by(self._course.web(), self._last)
        if not isinstance(thing, tuple) or len(thing) != len(times):
            return False
        for row, many in zip(thing, times):
            if not isinstance(row, tuple) or len(row) != many or not all([is_any_whole(part) for part in row]):
                return False
        return all([thing[inlet][at] == number for inlet, at, number in self._given])

    def are_shown(self, feed, numbers):
        """Whether a feed shows those sightings that have these numbers."""
        web = self._course.web()
        rows = rows_by(self._course, feed, self._last)
        told = [self._sightings[number] for number in numbers]
        return all([rows[beat - 1][place_of(web, lane)] == number for beat, lane, number in told])


def is_missed(end):
    """Whether a sighting is surely missed, by its number and its lane's ends."""
    number, least, greatest = end
    return greatest < (0, number) or least > (0, number)


def is_fit(end):
    """Whether a sighting is surely shown, by its number and its lane's ends."""
    number, least, greatest = end
    return least >= (0, number) and greatest <= (0, number)


def _last_of(sightings):
    """The last beat of some sightings, 0 of none."""
    return max([beat for beat, _, _ in sightings], default=0)


def _is_sighting(web, thing):
    """Whether a thing is a sighting of a web, by its form."""
    if not isinstance(thing, tuple) or len(thing) != 3:
        return False
    return is_whole(thing[0], 1, DEEPEST) and thing[1] in web.lanes() and is_number(thing[2])


def _check_carried(course, sightings):
    """Refuses the first sighting whose lane carries nothing then, and a course that jams by the last one."""
    rows = carrying(course, _last_of(sightings))
    for number, (beat, lane, _) in enumerate(sightings):
        if rows[beat - 1][place_of(course.web(), lane)] is None:
            raise NoSight(number)


def _check_given(web, last, given):
    """Refuses the first that isn't the number of an input by the last beat, behind those ahead of it."""
    if not isinstance(given, (list, tuple)):
        raise NoGiven(-1)
    times = times_by(web, last)
    ahead = (-1, -1)
    for number, thing in enumerate(given):
        if not _is_given(times, thing) or not ahead < thing[:2]:
            raise NoGiven(number)
        ahead = thing[:2]


def _is_given(times, thing):
    """Whether a thing is by itself the number of an input that goes in, by how many do by each inlet."""
    if not isinstance(thing, tuple) or len(thing) != 3 or not is_number(thing[2]):
        return False
    return is_whole(thing[0], 0, len(times) - 1) and is_whole(thing[1], 0, times[thing[0]] - 1)
