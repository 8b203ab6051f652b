"""Webs whose rounds and jams lie just at the 600th beat and behind it."""

from holdgates.webs import Web


def round_of_600(*more):
    """A web whose bones come round behind 600 beats: by deals of 25 and 8, and a rhythm of 3."""
    return Web([("a", "x"), ("b", "x"), ("c", "x--")], [
        ("deal", "a", "d", "e", "lrrrr"), ("deal", "d", "f", "g", "lrrrr"),
        ("deal", "b", "h", "i", "lrrr"), ("deal", "h", "j", "k", "lr"), *more])


def jam_at(beat):
    """A web that jams at this beat, 600 or 601: each 50th brings one more than goes on."""
    deals = [("deal", "b", "c", "d", "rrrrl"), ("deal", "c", "e", "f", "rrrrl"), ("deal", "e", "g", "h", "rl")]
    late = [("lag", "g", "i", 1)] if beat == 601 else []
    return Web([("a", "x"), ("b", "x")], [*deals, *late, ("join", "a", "i" if late else "g", "j", 11)])
