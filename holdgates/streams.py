"""Streams: courses on their way, with the numbers that were pushed in and what was looked at."""

from holdgates.bounds import DEEPEST
from holdgates.courses import MOST_LIFTS, Course
from holdgates.errors import Due, Full, NoGate, NoInput, NoToken
from holdgates.feeds import takers
from holdgates.gates import LIFTABLE
from holdgates.goings import carrying
from holdgates.sights import MOST_SIGHTINGS, Sights
from holdgates.spans import ANY, span_over
from holdgates.stands import stand
from holdgates.trees import grown
from holdgates.webs import place_of

MOST_HIDDEN = 6


def begun(of, web):
    """A stream of the web called so, at beat 0."""
    return Stream(of, Course(web), 0, ((),) * len(web.inlets()), ())


class Stream:
    """A course on its way. It never changes: what is done with it tells another one."""

    def __init__(self, of, course, beat, rows, looks):
        self._of = of
        self._course = course
        self._beat = beat
        self._rows = rows
        self._looks = looks
        # The tree of its looks and the boxes, once they were asked for.
        self._grown = None

    def of(self):
        """Its web's name."""
        return self._of

    def course(self):
        """Its web and its lifts."""
        return self._course

    def now(self):
        """How many beats are gone."""
        return self._beat

    def due(self):
        """The numbers of the inlets that carry at its next beat."""
        return takers(self._course.web(), self._beat + 1)

    def fed(self):
        """The rows of the numbers that were pushed in, None for hidden ones."""
        return self._rows

    def hidden(self):
        """Its hidden inputs, (inlet, nth), rising."""
        spans = self._spans()
        return [part for part in spans if spans[part] == ANY]

    def looks(self):
        """Its looks, (beat, lane, number), in their order."""
        return list(self._looks)

    def tree(self):
        """The told tree of its looks."""
        nodes, _ = self._nodes_and_boxes()
        return list(nodes)

    def found(self):
        """Boxes of all that was pushed in, by which its looks can be; refused where the tree has too many leaves."""
        spans = self._spans()
        _, boxes = self._nodes_and_boxes()
        return [{part: box.get(part, spans[part]) for part in spans} for box in boxes]

    def carried(self, lane, beat):
        """From which number to which one a lane can have carried at a beat, None where it carried none."""
        return span_over(self._course, self.found(), beat, place_of(self._course.web(), lane))

    def stand(self):
        """Its stand, of a stream without hidden inputs."""
        return stand(self._course, self._rows, self._beat)

    def stepped(self, numbers):
        """The stream a beat later; refused where this can't come."""
        inlets = self.due()
        if self._beat >= DEEPEST:
            raise Full(DEEPEST)
        if len(numbers) != len(inlets):
            raise Due(len(inlets))
        if len(self.hidden()) + numbers.count(None) > MOST_HIDDEN:
            raise Full(MOST_HIDDEN)
        carrying(self._course, self._beat + 1)
        rows = list(self._rows)
        for inlet, number in zip(inlets, numbers):
            rows[inlet] = rows[inlet] + (number,)
        return Stream(self._of, self._course, self._beat + 1, tuple(rows), self._looks)

    def lifted(self, gate, word):
        """The stream with a lift at its beat; refused where there can be none."""
        gates = self._course.web().gates()
        if not 0 <= gate < len(gates) or gates[gate][0] not in LIFTABLE:
            raise NoGate(gate)
        others = [lift for lift in self._course.lifts() if lift[:2] != (self._beat, gate)]
        if len(others) >= MOST_LIFTS:
            raise Full(MOST_LIFTS)
        course = Course(self._course.web(), lifts=sorted(others + [(self._beat, gate, word)]))
        return Stream(self._of, course, self._beat, self._rows, self._looks)

    def looked(self, lane, number):
        """The stream with a look at its beat, whether it can be or not; refused where there is nothing to look at."""
        if not self.carries(lane, self._beat):
            raise NoToken(lane)
        if len(self._looks) >= MOST_SIGHTINGS:
            raise Full(MOST_SIGHTINGS)
        looks = self._looks + ((self._beat, lane, number),)
        return Stream(self._of, self._course, self._beat, self._rows, looks)

    def told(self, inlet, nth, number):
        """The stream with a hidden input's number, whether it can be or not; refused where this is no hidden one."""
        if (inlet, nth) not in self.hidden():
            raise NoInput(inlet, nth)
        rows = list(self._rows)
        rows[inlet] = rows[inlet][:nth] + (number,) + rows[inlet][nth + 1:]
        return Stream(self._of, self._course, self._beat, tuple(rows), self._looks)

    def changed(self, web):
        """The stream that has gone through another web; refused where its lifts are none of this."""
        course = Course(web, lifts=self._course.lifts())
        return Stream(self._of, course, self._beat, self._rows, self._looks)

    def carries(self, lane, beat):
        """Whether a lane carries at a beat, 0 on; refused where there is no such lane, or the course jams by then."""
        place = place_of(self._course.web(), lane)
        rows = carrying(self._course, beat)
        return beat > 0 and rows[-1][place] is not None

    def _spans(self):
        """For each input that went in, rising, from which number to which one it may be."""
        spans = {}
        for inlet, row in enumerate(self._rows):
            for nth, number in enumerate(row):
                spans[(inlet, nth)] = ANY if number is None else (number, number)
        return spans

    def _nodes_and_boxes(self):
        """The told tree of its looks, what was pushed in and isn't hidden being given, and its boxes that fit."""
        if self._grown is None:
            spans = self._spans()
            given = [part + (spans[part][0],) for part in spans if spans[part] != ANY]
            self._grown = grown(Sights(self._course, self._looks, given))
        return self._grown
