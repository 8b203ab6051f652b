"""What looks ask of the feeds that an answer tells."""

from holdgates.bounds import STANDS
from holdgates.courses import Course
from holdgates.feeds import is_feed, times_by
from holdgates.goings import rows_by
from holdgates.likes import is_of
from holdgates.things import is_whole


def is_told(thing, word, many):
    """Whether a thing is a tuple of so many parts, the first one this word."""
    return isinstance(thing, tuple) and len(thing) == many and thing[0] == word


def is_witness(web, kinds, beat, feed):
    """Whether a beat is one of those that can be told, and a feed of the kind has just what goes in up to there."""
    if not is_whole(beat, 1, STANDS + 1) or not isinstance(feed, tuple) or not is_feed(web, feed):
        return False
    return [len(row) for row in feed] == times_by(web, beat) and is_of(web, kinds, feed)


def tokens_by(web, place, feed, beat):
    """What the lane at a place carries by a feed, beat by beat, up to a beat, however late."""
    return [row[place] for row in rows_by(Course(web), feed, beat)]


def is_behind_greater(tokens, many):
    """Whether the last of a lane's tokens beat by beat is a number, so many ahead of it or more being greater."""
    last = tokens[-1]
    if last is None:
        return False
    return len([token for token in tokens if token is not None and token > last]) >= many
