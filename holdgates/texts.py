"""Texts of webs, courses and feeds, a row for each of their parts."""

from holdgates.courses import Course, is_word
from holdgates.errors import NoCourse, NoWeb, Unread
from holdgates.feeds import LONGEST_ROW
from holdgates.figures import parts_in, row_with
from holdgates.gates import is_gate
from holdgates.things import are_numbers, is_beat, is_whole
from holdgates.webs import MOST_GATES, Web, is_inlet

# What a row of a course is, in the order in which these may stand.
INLET = 0
GATE = 1
LIFT = 2


def show_web(web):
    """A web as a text."""
    return "\n".join(_web_rows(web))


def show_course(course):
    """A course as a text."""
    lifts = [row_with(("lift",) + lift) for lift in course.lifts()]
    return "\n".join(_web_rows(course.web()) + lifts)


def show_feed(feed):
    """A feed as a text."""
    return "\n".join([row_with(row) if len(row) > 0 else "none" for row in feed])


def read_web(text):
    """The web that a text tells."""
    rows = _rows_of(text)
    inlets, gates, _ = _sorted_rows(rows, GATE)
    try:
        return Web(inlets, gates)
    except NoWeb:
        raise Unread(len(rows)) from None


def read_course(text):
    """The course that a text tells."""
    rows = _rows_of(text)
    inlets, gates, lifts = _sorted_rows(rows, LIFT)
    try:
        return Course(Web(inlets, gates), lifts=lifts)
    except (NoWeb, NoCourse):
        raise Unread(len(rows)) from None


def read_feed(web, text):
    """The feed of a web that a text tells."""
    rows = _rows_of(text)
    many = len(web.inlets())
    feed = []
    for number, row in enumerate(rows):
        numbers = () if row == "none" else tuple(parts_in(row))
        if number >= many or not are_numbers(numbers, 0, LONGEST_ROW):
            raise Unread(number)
        feed.append(numbers)
    if len(feed) < many:
        raise Unread(len(rows))
    return tuple(feed)


def _web_rows(web):
    """A row for each inlet and each gate of a web."""
    return [row_with(("inlet",) + inlet) for inlet in web.inlets()] + [row_with(gate) for gate in web.gates()]


def _rows_of(text):
    """The rows of a text; refused where it is none."""
    if not isinstance(text, str):
        raise Unread(0)
    return text.split("\n")


def _sorted_rows(rows, last):
    """Inlets, gates and lifts that rows tell; refused at the first that is none, or can't stand there."""
    found = ([], [], [])
    stage = INLET
    for number, row in enumerate(rows):
        part = tuple(parts_in(row))
        told = _sort_of(part)
        if told is None or not stage <= told <= last or (number == 0 and told != INLET):
            raise Unread(number)
        stage = told
        found[told].append(part if told == GATE else part[1:])
    return found


def _sort_of(part):
    """Whether what stands in a row is an inlet, a gate or a lift; None where it is none by itself."""
    if is_gate(part):
        return GATE
    if part[0] == "inlet":
        return INLET if is_inlet(part[1:]) else None
    if part[0] == "lift" and len(part) == 4:
        _, beat, gate, word = part
        return LIFT if is_beat(beat) and is_whole(gate, 0, MOST_GATES - 1) and is_word(word) else None
    return None
