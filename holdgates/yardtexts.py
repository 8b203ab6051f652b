"""A yard's text: a row for each deed that stands, webs by rows of their own."""

from holdgates.deeds import FORMS, is_deed
from holdgates.errors import Due, Full, Jams, Needed, NoGate, NoInput, NoLane, NoName, NoToken, Taken, TooMany
from holdgates.errors import Unfit, Unread, Unseen
from holdgates.figures import parts_in, row_with
from holdgates.texts import read_web, show_web
from holdgates.yard import Yard

# The deeds behind whose row a web's rows stand.
WITH_WEB = ("web", "change")


def show_yard(yard):
    """A yard as a text."""
    return "\n".join([_text_of(deed) for deed in yard.deeds()])


def read_yard(text):
    """The yard that has done what a text tells."""
    if not isinstance(text, str):
        raise Unread(-1)
    yard = Yard()
    for number, told in _texts_in(text):
        deed = deed_in(told)
        if deed is None:
            raise Unread(number)
        try:
            yard.do(deed)
        except (Full, Taken, NoName, Due, Jams, NoGate, NoLane, NoToken, TooMany, Unseen, NoInput, Unfit, Needed):
            raise Unread(number) from None
    return yard


def deed_in(text):
    """The deed that a row tells, a web's rows standing behind it; None where it tells none."""
    head, feed, rows = text.partition("\n")
    parts = parts_in(head)
    deed = tuple(parts)
    if parts[0] in WITH_WEB:
        deed = deed + (_web_in(rows),)
    elif feed != "":
        return None
    elif parts[0] == "step":
        numbers = [None if part == "?" else part for part in parts[2:]]
        deed = deed[:2] + (tuple(numbers),)
    return deed if is_deed(deed) else None


def _web_in(text):
    """The web that a text tells, or None."""
    try:
        return read_web(text)
    except Unread:
        return None


def _text_of(deed):
    """A deed as a text."""
    if deed[0] in WITH_WEB:
        return row_with(deed[:2]) + "\n" + show_web(deed[2])
    if deed[0] == "step":
        return row_with(deed[:2] + tuple(["?" if number is None else number for number in deed[2]]))
    return row_with(deed)


def _texts_in(text):
    """For each deed the number of its row, and its row with those of its web; none of the empty text."""
    found = []
    rows = text.split("\n") if text != "" else []
    for number, row in enumerate(rows):
        if len(found) > 0 and _first_word(found[-1][1]) in WITH_WEB and _first_word(row) not in FORMS:
            found[-1] = (found[-1][0], found[-1][1] + "\n" + row)
        else:
            found.append((number, row))
    return found


def _first_word(text):
    """The first word of a text's first row."""
    return text.split("\n")[0].split(" ")[0]
