"""Numbers as words, by any number of figures: more than Python itself takes of a text."""

FIGURES = "0123456789"
# Figures are written and read by groups, none of which is too long for Python.
SIZE = 60
GROUP = 10 ** 60


def word_of(number):
    """A number by its figures."""
    if number < 0:
        return "-" + word_of(-number)
    groups = []
    while number >= GROUP:
        number, rest = divmod(number, GROUP)
        groups.append(str(rest).zfill(SIZE))
    groups.append(str(number))
    return "".join(groups[::-1])


def number_in(word):
    """The number that a word writes without a nought ahead; None where it writes none so."""
    figures = word[1:] if word.startswith("-") else word
    if figures == "" or not all([sign in FIGURES for sign in figures]):
        return None
    if figures[0] == "0" and word != "0":
        return None
    first = len(figures) % SIZE
    number = int("0" + figures[:first])
    for at in range(first, len(figures), SIZE):
        number = number * GROUP + int(figures[at:at + SIZE])
    return -number if word.startswith("-") else number


def parts_in(row):
    """What stands in a row, words parted by one blank: numbers where they write some, else texts."""
    parts = []
    for word in row.split(" "):
        number = number_in(word)
        parts.append(word if number is None else number)
    return parts


def row_with(parts):
    """A row of texts and numbers, parted by one blank."""
    return " ".join([part if isinstance(part, str) else word_of(part) for part in parts])
