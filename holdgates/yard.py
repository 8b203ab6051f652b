"""The yard: webs and streams by their names, what is done with them, and what is told of them."""

from holdgates.boxes import hull, told_boxes, within
from holdgates.deeds import is_deed
from holdgates.doings import behind, stream_of, web_of
from holdgates.errors import Hidden, NoBeat, NoDeed
from holdgates.things import Changing, is_whole
from holdgates.webs import place_of


class Yard(Changing):
    """Webs and streams; what was done in it can be taken back, and done again."""

    def __init__(self):
        # Of each deed or run: its deeds, and all that stands behind it.
        self._done = []
        self._undone = []

    def __eq__(self, other):
        return isinstance(other, Yard) and self.deeds() == other.deeds()

    def __len__(self):
        return len(self._named())

    def copied(self):
        """Another yard that stands alike, with what was taken back."""
        other = Yard()
        other._done = list(self._done)
        other._undone = list(self._undone)
        return other

    def do(self, deed):
        """Does a deed; refused, nothing is done."""
        self.run([deed])

    def run(self, deeds):
        """Does a list of deeds; where one is refused, none is done."""
        if not isinstance(deeds, list):
            raise NoDeed(-1)
        named = self._named()
        for nth, deed in enumerate(deeds):
            if not is_deed(deed):
                raise NoDeed(nth)
            named = behind(named, deed)
        self._done.append((tuple(deeds), named))
        self._undone = []

    def undo(self):
        """Takes the last deed or run back, and tells whether there was one."""
        if len(self._done) == 0:
            return False
        self._undone.append(self._done.pop())
        return True

    def redo(self):
        """Does what was taken back last again, and tells whether there was something."""
        if len(self._undone) == 0:
            return False
        self._done.append(self._undone.pop())
        return True

    def deeds(self):
        """All deeds that were done and not taken back, in order, those of a run one by one."""
        return [deed for deeds, _ in self._done for deed in deeds]

    def names(self):
        """All names, in the order of coming."""
        return list(self._named())

    def web(self, name):
        """The web of a name."""
        return web_of(self._named(), name)

    def of(self, name):
        """The name of a stream's web."""
        return self._stream(name).of()

    def course(self, name):
        """A stream's web and lifts."""
        return self._stream(name).course()

    def now(self, name):
        """A stream's beat."""
        return self._stream(name).now()

    def due(self, name):
        """The numbers of the inlets that carry at a stream's next beat."""
        return self._stream(name).due()

    def fed(self, name):
        """A stream's rows, None for hidden numbers."""
        return self._stream(name).fed()

    def hidden(self, name):
        """A stream's hidden inputs, (inlet, nth), rising."""
        return self._stream(name).hidden()

    def looks(self, name):
        """A stream's looks, (beat, lane, number), in their order."""
        return self._stream(name).looks()

    def boxes(self, name):
        """Boxes of the numbers of a stream's hidden inputs that can be, no two with an assignment in common."""
        stream = self._stream(name)
        return told_boxes(stream.found(), stream.hidden())

    def within(self, name, low, high):
        """How many of the numbers of a stream's hidden inputs that can be are all from low to high."""
        return within(self.boxes(name), low, high)

    def can_be(self, name):
        """For each hidden input of a stream the least and the greatest number that it can have, None for open ends."""
        return hull(self.boxes(name))

    def carried(self, name, lane, *, beat=None):
        """The least and the greatest number that a lane can have carried at a beat, None where it carried none."""
        stream = self._stream(name)
        place_of(stream.course().web(), lane)
        asked = stream.now() if beat is None else beat
        if not is_whole(asked, 1, stream.now()):
            raise NoBeat(asked)
        return stream.carried(lane, asked)

    def tree(self, name):
        """The tree of cases that shows what the hidden numbers can be."""
        return self._stream(name).tree()

    def stand(self, name):
        """The stand of a stream without hidden numbers."""
        stream = self._stream(name)
        if len(stream.hidden()) > 0:
            raise Hidden(name)
        return stream.stand()

    def _named(self):
        """All webs and streams by their names."""
        if len(self._done) == 0:
            return {}
        return self._done[-1][1]

    def _stream(self, name):
        """The stream of a name."""
        return stream_of(self._named(), name)
