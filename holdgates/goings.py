"""Goings: courses on their way, beat by beat."""

from holdgates.bounds import LONGEST
from holdgates.errors import Jams, TooLong
from holdgates.feeds import check_feed
from holdgates.names import takes
from holdgates.steps import jams, nothing_kept, one_beat


def first_kept(web):
    """What the gates of a web keep ahead of the first beat."""
    return tuple([nothing_kept(gate) for gate in web.gates()])


def set_out(course, stand, feed, beats):
    """A going from a stand by a feed, refused where a run of so many beats is ahead of its first one."""
    check_feed(course.web(), feed)
    if beats > LONGEST:
        raise TooLong(LONGEST)
    return by_feed(course, stand, feed)


def by_feed(course, stand, feed):
    """A going from a stand by a feed."""
    # A feed is as numbers that come round: behind its last one comes nothing, again and again.
    return Going(course, [(row, (None,)) for row in feed], stand)


def by_noughts(course):
    """A going from the first stand by noughts without end."""
    web = course.web()
    return Going(course, [((), (0,)) for _ in web.inlets()], (0, first_kept(web)))


def rows_by(course, feed, beats):
    """What the lanes carry in each of so many beats by a feed, whatever its tokens are."""
    return by_feed(course, (0, first_kept(course.web())), feed).steps(beats)


def carrying(course, beats):
    """Which lanes carry in each of so many beats of feeds without end: those that carry noughts here."""
    return by_noughts(course).steps(beats)


class Going:
    """A course that goes on from a stand, fed by a (row, again) for each inlet."""

    def __init__(self, course, supplies, stand):
        self._course = course
        self._web = course.web()
        self._lines = [row + again for row, again in supplies]
        self._backs = [len(row) for row, again in supplies]
        self.beat, self.kept = stand
        self._places = tuple([0 for _ in supplies])

    def stand(self):
        """The stand behind the beats that are gone."""
        return self.beat, self.kept

    def full(self):
        """What alone tells all that is to come, as long as no lift comes."""
        return self.kept, self._places, self.beat % self._web.common()

    def jump(self, beat, full):
        """Goes on from another beat, at which this is the full stand."""
        self.beat = beat
        self.kept = full[0]
        self._places = full[1]

    def step(self):
        """Goes on by a beat, and tells what the lanes carry in it."""
        beat = self.beat + 1
        carried = self._take(beat)
        lifted = [self._course.is_lifted(gate, beat) for gate in range(len(self._web))]
        kept = one_beat(self._web.gates(), self.kept, carried, lifted)
        if jams(self._web.gates(), kept):
            raise Jams(beat)
        self.beat = beat
        self.kept = kept
        return tuple(carried.values())

    def steps(self, beats):
        """Goes on by so many beats, and tells what the lanes carry in each."""
        rows = []
        for _ in range(beats):
            rows.append(self.step())
        return rows

    def _take(self, beat):
        """What the inlets take at a beat, by their lanes."""
        carried = {}
        places = []
        for at, (lane, rhythm) in enumerate(self._web.inlets()):
            place = self._places[at]
            carried[lane] = None
            if takes(rhythm, beat):
                carried[lane] = self._lines[at][place]
                place += 1
            places.append(place if place < len(self._lines[at]) else self._backs[at])
        self._places = tuple(places)
        return carried
