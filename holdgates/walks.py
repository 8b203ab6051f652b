"""Walks: goings followed until all comes again."""

from holdgates.bounds import LONGEST
from holdgates.errors import TooLong


class Walk:
    """What is carried and kept from a going's beat on, up to an end, None where there is none.

    Full stands are told apart from the beat since on; once one comes again all
    behind it is known, so a walk has at most LONGEST beats of its own.
    """

    def __init__(self, going, end, since):
        self.origin = going.beat
        self.rows = []
        self.stands = [going.full()]
        self.first = None
        self._follow(going, end, since)

    def again(self):
        """Behind how many beats all comes again, where the end isn't ahead of that."""
        return len(self.rows) - self.first

    def shown(self, beat):
        """What the lanes carry at a beat behind the origin."""
        return self.rows[self._place(beat - self.origin - 1)]

    def behind(self, beat):
        """The full stand behind a beat."""
        return self.stands[self._place(beat - self.origin)]

    def _follow(self, going, end, since):
        """Steps on until the end, or until a full stand comes again."""
        seen = {}
        while end is None or going.beat < end:
            full = self.stands[-1]
            if full in seen:
                self.first = seen[full]
                return
            if going.beat >= since:
                seen[full] = len(self.rows)
            if len(self.rows) >= LONGEST:
                raise TooLong(LONGEST)
            self.rows.append(going.step())
            self.stands.append(going.full())

    def _place(self, number):
        """The place of the own beat that is like the one of this number, from the origin."""
        if self.first is None or number < len(self.rows):
            return number
        return self.first + (number - self.first) % self.again()


def lift_beats(course):
    """0, and the beats of a course's lifts, rising, each once."""
    beats = [lift[0] for lift in course.lifts()]
    return sorted(set([0] + beats))


def own_beats(one, other, end):
    """In how many beats two walks from one beat to one end show something unlike, if ever they do."""
    if one.first is None or other.first is None:
        return end - one.origin
    # Two rounds that are alike for as many beats as both have together are alike for ever.
    beats = max(one.first, other.first) + one.again() + other.again()
    if end is None:
        return beats
    return min(beats, end - one.origin)
