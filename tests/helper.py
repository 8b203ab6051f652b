"""What the tests share: odd things, made-up webs, and a going by hand, gate by gate."""

import copy
import itertools
import random
import re

from holdgates import errors
from holdgates.courses import Course
from holdgates.desk import Desk
from holdgates.errors import Jams, NoCourse, NoWeb, TooLong, TooMany, Unread
from holdgates.feeds import cut, is_endless, is_feed, times_by
from holdgates.likes import is_of
from holdgates.webs import Web
from holdgates.yard import Yard

LINE = Web([("a", "x")])
TWO = Web([("a", "x"), ("b", "x-")], [("hold", "a", "c", 2, 1), ("cross", "b", "c", "d", "e")])


def deep(levels, inner):
    """A thing so many lists, tuples and dicts within one another."""
    thing = inner
    for level in range(levels):
        thing = [[thing], (thing,), {"k": thing}][level % 3]
    return thing


def made_desk():
    """A desk with a web, a stream and a deed taken back."""
    desk = Desk()
    for row in ["web a\ninlet a x", "stream b a", "step b 5", "step b ?", "undo"]:
        desk.say(row)
    return desk


def anything():
    """Things of all sorts that may be handed in where "of anything" stands, made anew."""
    return [
        None, True, False, 0, 1, -1, 3, 12, 13, 10 ** 12 + 1, 10 ** 60, 10 ** 60 + 1, -(10 ** 70),
        "", "a", "x", "ab", "A", "hold", "up", "zzzzzzzzz", "x-", "lr", "\u00e9", " ",
        (), [], {}, (None,), [None], (1,), [1], ("a",), ["a"], {"a": 1}, {("a", 1): [2]},
        ("a", "x"), ["a", "x"], (("a", "x"),), [["a", "x"]], ((), ()), [(), ()], ([],), ({},),
        (True, True), (0, ()), (0, []), (0, ((),)), ((1, 2), (3,)), (((), (1,)),),
        ("hold", "a", "b", 1, 0), deep(10, 1), deep(9, None),
        LINE, TWO, Course(LINE), (LINE,), [Course(TWO)], Yard(), made_desk(), made_desk().yard(), [made_desk().yard()],
    ]


def equal_kinds(one, other):
    """Whether two things are equal and of the same kinds all through: no truth is a number, no list a tuple."""
    if type(one) is not type(other):
        return False
    if isinstance(one, (list, tuple)):
        return len(one) == len(other) and all(equal_kinds(a, b) for a, b in zip(one, other))
    if isinstance(one, dict):
        return list(one) == list(other) and all(equal_kinds(one[key], other[key]) for key in one)
    return one == other


def holds_list(thing, found):
    """Whether a list or dict of a thing is one of those found, the very same."""
    if isinstance(thing, (list, dict)) and any(thing is other for other in found):
        return True
    if isinstance(thing, dict):
        return any(holds_list(thing[key], found) for key in thing)
    return isinstance(thing, (list, tuple)) and any(holds_list(part, found) for part in thing)


def lists_of(thing):
    """All lists and dicts within a thing, itself too."""
    if isinstance(thing, dict):
        return [thing] + [found for key in thing for found in lists_of(thing[key])]
    if isinstance(thing, (list, tuple)):
        own = [thing] if isinstance(thing, list) else []
        return own + [found for part in thing for found in lists_of(part)]
    return []


def inner(thing):
    """What webs, courses and yards tell of themselves; of other things themselves."""
    if isinstance(thing, Course):
        return inner(thing.web()), thing.lifts()
    if isinstance(thing, Yard):
        return [inner(part) for deed in thing.deeds() for part in deed], thing.names()
    return (thing.inlets(), thing.gates()) if isinstance(thing, Web) else thing


def unchanged(call, *told, **more):
    """What a call tells twice alike, having changed nothing that was handed in.

    What it tells first is emptied, as it is the asker's own.
    """
    given = [*told, *more.values()]
    before = copy.deepcopy([inner(thing) for thing in given])
    answer = call(*told, **more)
    kept = copy.deepcopy(answer)
    for found in lists_of(answer):
        found.clear()
    again = call(*told, **more)
    if not equal_kinds(kept, again):
        raise AssertionError("who asks the same is told something else")
    if not equal_kinds(before, [inner(thing) for thing in given]):
        raise AssertionError("what was handed in is changed")
    return again


ALL_REFUSALS = tuple(thing for thing in vars(errors).values() if isinstance(thing, type))


def due(ask, *told, **more):
    """What is refused: its class and its fields, (class, field, ..); None where nothing is."""
    try:
        ask(*told, **more)
    except ALL_REFUSALS as refused:
        return type(refused), *vars(refused).values()
    return None


def refusal(ask, *told, **more):
    """The class and the field of the Jams, TooLong or TooMany that is due, or None."""
    try:
        ask(*told, **more)
    except (Jams, TooLong, TooMany) as refused:
        return type(refused), list(vars(refused).values())[0]
    return None


class Jam(Exception):
    """By hand: the web jams at this beat."""

    def __init__(self, beat):
        Exception.__init__(self, beat)
        self.beat = beat


class Hand:
    """A going by hand: lists that are changed in place, one gate behind the other.

    number(inlet, place) tells what goes in, None for nothing.
    """

    def __init__(self, inlets, gates, lifts, number):
        self.inlets, self.gates, self.lifts, self.number = inlets, gates, lifts, number
        self.beat = 0
        self.went = [0] * len(inlets)
        self.boxes = []
        for gate in gates:
            if gate[0] == "lag":
                self.boxes.append([None] * gate[3])
            elif gate[0] == "deal":
                self.boxes.append([0])
            else:
                self.boxes.append([])

    def up(self, at):
        word = "down"
        for beat, gate, told in self.lifts:
            if gate == at and beat + 1 <= self.beat:
                word = told
        return word == "up"

    def go(self):
        """One beat: what each lane carries, by lanes in order."""
        self.beat += 1
        lanes = {}
        for at, (lane, rhythm) in enumerate(self.inlets):
            lanes[lane] = None
            long_rhythm = rhythm * (self.beat // len(rhythm) + 1) if self.beat < 10 ** 4 else None
            sign = long_rhythm[self.beat - 1] if long_rhythm else rhythm[(self.beat - 1) % len(rhythm)]
            if sign == "x":
                lanes[lane] = self.number(at, self.went[at])
                self.went[at] += 1
        for at, gate in enumerate(self.gates):
            getattr(self, gate[0])(at, gate, lanes)
        return tuple(lanes.values())

    def hold(self, at, gate, lanes):
        token, box = lanes[gate[1]], self.boxes[at]
        lanes[gate[2]] = None
        if token is None:
            return
        if self.up(at):
            lanes[gate[2]] = token
        elif len(box) < gate[3]:
            box.append(token)
            box.sort()
        else:
            box.append(token)
            box.sort()
            lanes[gate[2]] = box[gate[4]]
            del box[gate[4]]

    def wait(self, at, gate, lanes):
        token, box = lanes[gate[1]], self.boxes[at]
        lanes[gate[2]] = None
        if token is None:
            return
        if self.up(at):
            lanes[gate[2]] = token
            return
        box.append(token)
        if len(box) > gate[3]:
            lanes[gate[2]] = box.pop(0)

    def lag(self, at, gate, lanes):
        box = self.boxes[at]
        box.append(lanes[gate[1]])
        lanes[gate[2]] = box.pop(0)

    def deal(self, at, gate, lanes):
        token, box = lanes[gate[1]], self.boxes[at]
        lanes[gate[2]] = lanes[gate[3]] = None
        if token is None:
            return
        out = gate[2] if gate[4][box[0]] == "l" else gate[3]
        lanes[out] = token
        box[0] += 1
        if box[0] == len(gate[4]):
            box[0] = 0

    def join(self, at, gate, lanes):
        box = self.boxes[at]
        for lane in gate[1:3]:
            if lanes[lane] is not None:
                box.append(lanes[lane])
        lanes[gate[3]] = box.pop(0) if box else None
        if len(box) > gate[4]:
            raise Jam(self.beat)

    def cross(self, at, gate, lanes):
        one, other = lanes[gate[1]], lanes[gate[2]]
        if one is not None and other is not None and not self.up(at):
            one, other = min(one, other), max(one, other)
        lanes[gate[3]], lanes[gate[4]] = one, other

    def kept(self):
        return tuple(tuple(box) for box in self.boxes)


class Bits:
    """Webs of the same inlets side by side, by hand, fed by the same noughts and ones of a kind; joins never jam."""

    def __init__(self, webs, kinds=None):
        self.kinds = [None] * len(webs[0].inlets()) if kinds is None else list(kinds)
        self.rows = [[] for _ in webs[0].inlets()]
        self.hands = []
        self.seen = []
        for web in webs:
            gates = [gate[:4] + (10 ** 6,) if gate[0] == "join" else gate for gate in web.gates()]
            self.hands.append(Hand(web.inlets(), gates, [], self.number))

    def number(self, inlet, place):
        return self.rows[inlet][place]

    def due(self):
        """The inlets that take at the next beat."""
        beat = self.hands[0].beat + 1
        return [at for at, (_, rhythm) in enumerate(self.hands[0].inlets) if (rhythm * beat)[beat - 1] == "x"]

    def on(self, choice):
        """Another one, a beat later, or None where this isn't of the kind."""
        other = self.copied()
        for inlet, bit in zip(self.due(), choice):
            row, kind = other.rows[inlet], self.kinds[inlet]
            row.append(bit)
            if kind is not None and any(row[at] > bit for at in range(len(row) - 1 - kind)):
                return None
        other.seen.append(tuple(hand.go() for hand in other.hands))
        return other

    def copied(self):
        other = copy.copy(self)
        other.rows = [list(row) for row in self.rows]
        other.seen = list(self.seen)
        other.hands = []
        for hand in self.hands:
            twin = copy.copy(hand)
            twin.number = other.number
            twin.boxes = [list(box) for box in hand.boxes]
            twin.went = list(hand.went)
            other.hands.append(twin)
        return other

    def nexts(self):
        """(choice, other) for all that are of the kind, choices rising."""
        found = []
        for choice in itertools.product((0, 1), repeat=len(self.due())):
            other = self.on(choice)
            if other is not None:
                found.append((choice, other))
        return found

    def marks(self):
        told = []
        for row, kind in zip(self.rows, self.kinds):
            told.append(None if kind is None or 1 not in row else min(len(row) - 1 - row.index(1), kind))
        return tuple(told)

    def stand(self):
        """(rest, kept for each web, marks)."""
        common = 1
        while any(common % len(rhythm) for _, rhythm in self.hands[0].inlets):
            common += 1
        return self.hands[0].beat % common, *(hand.kept() for hand in self.hands), self.marks()

    def feed(self):
        return tuple(tuple(row) for row in self.rows)


def gone_through(bits, key, ends, most=400):
    """All that can be come to by hand, level by level: (found by key, those at whose beat ends tells something).

    Ends with the first level that has such; None where there are more than most.
    """
    found, level = {key(bits): bits}, [bits]
    for _ in range(most + 1):
        if len(found) > most:
            return None
        nexts = [other for one in level for _, other in one.nexts()]
        ended = [other for other in nexts if ends(other) is not None]
        if ended or not nexts:
            return found, ended
        level = []
        for other in nexts:
            if key(other) not in found:
                found[key(other)] = other
                level.append(other)
    raise AssertionError("more levels than there can be")


def bits_at(webs, kinds, node):
    """Webs by hand at (rest, kept of each, marks)."""
    bits, (rest, *kept, marks) = Bits(webs, kinds), node
    # A row of as many ones has just this mark.
    bits.rows = [[1] * (0 if mark is None else mark + 1) for mark in marks]
    for hand, parts in zip(bits.hands, kept):
        hand.beat, hand.went = rest, [len(row) for row in bits.rows]
        hand.boxes = [list(part) for part in parts]
    return bits


def is_bit(thing):
    return type(thing) is int and thing in (0, 1)


def can_be_kept(gate, thing):
    """By hand: whether a thing is of the form of what a gate keeps of noughts and ones."""
    if type(thing) is not tuple:
        return False
    if gate[0] == "cross":
        return thing == ()
    if gate[0] == "deal":
        return len(thing) == 1 and type(thing[0]) is int and 0 <= thing[0] < len(gate[4])
    if gate[0] == "lag":
        return len(thing) == gate[3] and all(part is None or is_bit(part) for part in thing)
    most = gate[4] if gate[0] == "join" else gate[3]
    return len(thing) <= most and all(map(is_bit, thing)) and (gate[0] != "hold" or list(thing) == sorted(thing))


def is_node(webs, kinds, thing):
    """By hand: whether a thing is of the form (rest, kept of each web, marks)."""
    inlets = webs[0].inlets()
    kinds = [None] * len(inlets) if kinds is None else kinds
    if type(thing) is not tuple or len(thing) != len(webs) + 2:
        return False
    rest, *kept, marks = thing
    if type(rest) is not int or not 0 <= rest < webs[0].common():
        return False
    for web, parts in zip(webs, kept):
        if type(parts) is not tuple or len(parts) != len(web) or not all(map(can_be_kept, web.gates(), parts)):
            return False
    if type(marks) is not tuple or len(marks) != len(inlets):
        return False
    return all(mark is None or kind is not None and type(mark) is int and 0 <= mark <= kind
               for mark, kind in zip(marks, kinds))


def is_lot(webs, kinds, thing, is_more, first, step):
    """By hand: whether a thing is a list of nodes and something more, as a look at it asks.

    is_more(part): whether this stands behind a node; step(bits, part): what stands there a beat later, None where
    this beat mustn't be.
    """
    if type(thing) is not list:
        return False
    for at, node in enumerate(thing):
        if type(node) is not tuple or len(node) != len(webs) + 2 + len(first):
            return False
        if not is_node(webs, kinds, node[:len(webs) + 2]) or not is_more(node[len(webs) + 2:]):
            return False
        if node in thing[:at]:
            return False
    if (*Bits(webs, kinds).stand(), *first) not in thing:
        return False
    for node in thing:
        for _, other in bits_at(webs, kinds, node[:len(webs) + 2]).nexts():
            more = step(other, node[len(webs) + 2:])
            if more is None or (*other.stand(), *more) not in thing:
                return False
    return True


def is_shown(web, kinds, beat, feed):
    """By the document's words: whether a feed of the kind is cut at a beat, without end up to there."""
    if type(beat) is not int or not 1 <= beat <= 2001 or type(feed) is not tuple or not is_feed(web, feed):
        return False
    return cut(web, feed, beat) == feed and is_endless(web, feed, beat) and is_of(web, kinds, feed)


def spoilt(thing):
    """A thing otherwise at each place and depth."""
    if isinstance(thing, (list, tuple)):
        kind = type(thing)
        found = [list(thing) if kind is tuple else tuple(thing), None, 0]
        for at in range(len(thing)):
            found.append(thing[:at] + thing[at + 1:])
            found.append(thing[:at] + thing[at:at + 1] + thing[at:])
            found.append(thing[:at] + thing[at:][::-1])
            for part in spoilt(thing[at]):
                found.append(thing[:at] + kind([part]) + thing[at + 1:])
        return found + [thing + kind([None]), kind([None]) + thing, thing + kind([0]), kind([thing])]
    if thing is None:
        return [0, 1, False, (), "None"]
    if isinstance(thing, str):
        return [thing + "x", thing[1:], "", "rises", "falls", "alike", "parts", "hold", "never", None, 1, (thing,)]
    return [thing + 1, thing - 1, bool(thing), not thing, 1 - thing, None, str(thing), (thing,), [thing], -1, 9, 2001]


def some_spoilt(luck, thing, most):
    """Some of what is spoilt, by luck."""
    found = spoilt(thing)
    return found if len(found) <= most else luck.sample(found, most)


def made_feed_of(luck, web, kinds, beats):
    """A feed of a kind without end up to a beat, by luck."""
    rows = []
    for at, (_, rhythm) in enumerate(web.inlets()):
        kind, row = None if kinds is None else kinds[at], []
        wide = luck.choice([1, 3, 10, 1000])
        for _ in range(sum(rhythm[beat % len(rhythm)] == "x" for beat in range(beats))):
            least = max(row[:len(row) - kind], default=0) if kind is not None else 0
            row.append(least + luck.randint(0, wide))
        rows.append(tuple(row))
    return tuple(rows)


def made_kinds(luck, web):
    """A kind by luck."""
    return tuple(luck.choice([None, 0, 1, 2, luck.randint(0, 8)]) for _ in web.inlets())


def hand_of(course, number):
    return Hand(course.web().inlets(), course.web().gates(), course.lifts(), number)


def by_feed(feed):
    """number(inlet, place) of a feed."""
    return lambda inlet, place: feed[inlet][place] if place < len(feed[inlet]) else None


def by_rounds(rounds):
    """number(inlet, place) of numbers that come round."""
    def number(inlet, place):
        row, again = rounds[inlet]
        if place < len(row):
            return row[place]
        return again[(place - len(row)) % len(again)]
    return number


def hand_run(course, feed, beats):
    """(rows, jam): what each beat carries by hand, and the beat at which it jams, or None."""
    hand, rows = hand_of(course, by_feed(feed)), []
    for beat in range(beats):
        try:
            rows.append(hand.go())
        except Jam as told:
            return rows, told.beat
    return rows, None


def shown_by(course, feed, beat, lane):
    """What a lane carries at a beat by a feed, by hand."""
    return hand_run(course, feed, beat)[0][beat - 1][course.web().lanes().index(lane)]


def are_shown(course, feed, sightings):
    """By hand: whether a feed shows all sightings."""
    rows, _ = hand_run(course, feed, max((beat for beat, _, _ in sightings), default=0))
    lanes = course.web().lanes()
    return all(rows[beat - 1][lanes.index(lane)] == number for beat, lane, number in sightings)


def parts_by(web, beat):
    """All inputs, (inlet, number), up to a beat, in order."""
    return [(inlet, at) for inlet, many in enumerate(times_by(web, beat)) for at in range(many)]


def fed_by(web, beat, numbers):
    """The feed up to a beat that has these numbers, a dict by inputs, noughts else."""
    return tuple(tuple(numbers.get((inlet, at), 0) for at in range(many)) for inlet, many in enumerate(times_by(web, beat)))


def run_by_hand(web, feed, beats):
    """What each beat carries by hand, of a web without lifts that doesn't jam."""
    hand = Hand(web.inlets(), web.gates(), [], by_feed(feed))
    return [hand.go() for _ in range(beats)]


def made_web(luck, gates=None, words=("hold", "wait", "lag", "deal", "join", "cross"), most=12, inlets=None):
    """A web by luck, a random.Random."""
    names = ["in", "pq", "r", "sable", "tt", "u", "vvvvvvvv", "w"] + [a + b for a in "abcd" for b in "efghkmo"]
    luck.shuffle(names)
    rows = []
    for _ in range(inlets or luck.randint(1, 3)):
        rhythm = "".join(luck.choice("x-") for _ in range(luck.randint(1, 6)))
        if "x" not in rhythm:
            rhythm = "x" + rhythm[1:]
        rows.append((names.pop(), rhythm))
    free, told, size = [row[0] for row in rows], [], most
    for _ in range(luck.randint(0, 10) if gates is None else gates):
        word = luck.choice(words)
        if word in ("join", "cross") and len(free) < 2:
            word = [other for other in words if other not in ("join", "cross")][0]
        c = luck.choice([0, 1, luck.randint(0, 3), luck.randint(0, size)])
        c = min(c, size)
        if word == "lag" and size == 0:
            word, c = "hold", 0
        if word == "lag":
            c = max(1, c)
        lane = free.pop(luck.randrange(len(free)))
        if word in ("join", "cross"):
            other = free.pop(luck.randrange(len(free)))
        outs = [names.pop() for _ in range(2 if word in ("deal", "cross") else 1)]
        if word == "hold":
            told.append((word, lane, outs[0], c, luck.choice([0, c, luck.randint(0, c)])))
        elif word in ("wait", "lag"):
            told.append((word, lane, outs[0], c))
        elif word == "deal":
            told.append((word, lane, *outs, "".join(luck.choice("lr") for _ in range(luck.randint(1, 6)))))
        elif word == "join":
            told.append((word, lane, other, outs[0], c))
        else:
            told.append((word, lane, other, *outs))
        size -= c if word not in ("deal", "cross") else 0
        free.extend(outs)
    return Web(rows, told)


def other_of(luck, web):
    """A web with the same inlets, a gate or two otherwise, or just alike in other words."""
    gates = web.gates()
    for _ in range(luck.choice([0, 1, 1, 2]) if gates else 0):
        at = luck.randrange(len(gates))
        gate = gates[at]
        if gate[0] == "hold":
            gate = luck.choice([gate[:4] + (luck.randint(0, gate[3]),), ("wait", *gate[1:4])])
        elif gate[0] == "wait":
            gate = luck.choice([("hold", *gate[1:4], luck.choice([0, gate[3]])), gate[:3] + (max(gate[3] - 1, 0),)])
        elif gate[0] == "lag":
            gate = luck.choice([("wait", *gate[1:]), gate])
        elif gate[0] == "deal":
            gate = luck.choice([gate[:4] + (gate[4] * 2 if len(gate[4]) < 4 else gate[4],),
                                ("deal", gate[1], gate[3], gate[2], gate[4])])
        elif gate[0] == "cross":
            gate = luck.choice([("cross", gate[2], gate[1], gate[3], gate[4]), gate[:3] + (gate[4], gate[3])])
        elif gate[0] == "join":
            gate = ("join", gate[2], gate[1], *gate[3:])
        gates[at] = gate
    return Web(web.inlets(), gates)


def made_course(luck, web, beats, most=12):
    """A course by luck, its lifts at some of the beats told."""
    able = [at for at, gate in enumerate(web.gates()) if gate[0] in ("hold", "wait", "cross")]
    places = {(luck.choice(beats), luck.choice(able)) for _ in range(luck.randint(0, most))} if able else set()
    return Course(web, lifts=[(*place, luck.choice(["up", "down"])) for place in sorted(places)])


def made_feed(luck, web, beats):
    """A feed by luck: rows that end ahead of a beat, at it and behind it."""
    rows = []
    for lane, rhythm in web.inlets():
        many = sum(rhythm[beat % len(rhythm)] == "x" for beat in range(beats))
        many = luck.choice([many, many, many, many + 3, luck.randint(0, many)])
        wide = luck.choice([1, 5, 10 ** 12])
        rows.append(tuple(luck.randint(-wide, wide) for _ in range(many)))
    return tuple(rows)


def made_rounds(luck, web, most=4, least=1):
    """Numbers that come round, by luck, again and again from least to most."""
    rounds = []
    for _ in web.inlets():
        row = tuple(luck.randint(-9, 9) for _ in range(luck.choice([0, luck.randint(0, most)])))
        rounds.append((row, tuple(luck.randint(-9, 9) for _ in range(luck.randint(least, most)))))
    return tuple(rounds)


def luck_of(seed):
    return random.Random(seed)


def round_of_600(*more):
    """A web whose bones come round behind 600 beats: by deals of 25 and 8, and a rhythm of 3."""
    return Web([("a", "x"), ("b", "x"), ("c", "x--")], [
        ("deal", "a", "d", "e", "lrrrr"), ("deal", "d", "f", "g", "lrrrr"),
        ("deal", "b", "h", "i", "lrrr"), ("deal", "h", "j", "k", "lr"), *more])


# Just 2000 of its small stands with marks can be come to, for the kind (8, 8); c never carries.
JUST_2000 = Web([("a", "xxxx-"), ("b", "x---")], [("deal", "a", "d", "c", "l")])
# Just 2000 of its small stands can be come to; g never carries.
SMALL_2000 = Web([("a", "-x-")], [
    ("deal", "a", "b", "c", "lrlr"), ("wait", "b", "d", 1), ("lag", "c", "e", 3), ("wait", "e", "f", 4),
    ("deal", "f", "g", "h", "rrr")])
# 2001 of its small stands can be come to; d never carries.
JUST_2001 = Web([("b", "x"), ("a", "--xxx")], [
    ("wait", "a", "e", 6), ("deal", "b", "d", "f", "rr"), ("hold", "d", "g", 1, 0), ("deal", "f", "h", "i", "rrllrr")])
# d falls at first where 2000, and 2001, of (rest, kept, marks, high) were come to by fewer beats, for these kinds.
FALLS_2000 = Web([("a", "-xx-x-"), ("b", "-x--x"), ("c", "xx-x-x")], [("hold", "a", "d", 5, 0)]), (8, 1, 3)
FALLS_2001 = Web([("a", "x--"), ("b", "x----"), ("c", "xx-")], [("hold", "a", "d", 4, 0)]), (7, 1, 4)


def jam_at(beat):
    """A web that jams at this beat, 600 or 601: each 50th brings one more than goes on."""
    deals = [("deal", "b", "c", "d", "rrrrl"), ("deal", "c", "e", "f", "rrrrl"), ("deal", "e", "g", "h", "rl")]
    late = [("lag", "g", "i", 1)] if beat == 601 else []
    return Web([("a", "x"), ("b", "x")], [*deals, *late, ("join", "a", "i" if late else "g", "j", 11)])


class Cases:
    """Boxes of sightings by hand: by the document's words, through noughts and ones. A box is a dict by the inputs."""

    def __init__(self, course, sightings, given=()):
        self.course, self.sightings = course, list(sightings)
        self.last = max((beat for beat, _, _ in sightings), default=0)
        self.all = parts_by(course.web(), self.last)
        self.given = {(inlet, at): number for inlet, at, number in given}
        self.inputs = [part for part in self.all if part not in self.given]
        self.rows = {}

    def token(self, box, number, of_span, of_given):
        """What the sighting's lane brings where inputs are ones by their spans, or by their given numbers."""
        ones = {part: int(of_given(self.given[part]) if part in self.given else of_span(box[part])) for part in self.all}
        feed = fed_by(self.course.web(), self.last, ones)
        if feed not in self.rows:
            self.rows[feed] = hand_run(self.course, feed, self.last)[0]
        beat, lane, _ = self.sightings[number]
        return self.rows[feed][beat - 1][self.course.web().lanes().index(lane)]

    def is_fit(self, box, number):
        sought = self.sightings[number][2]
        reached = self.token(box, number, lambda span: span[0] is not None and span[0] >= sought,
                             lambda told: told >= sought)
        passed = self.token(box, number, lambda span: span[1] is None or span[1] > sought, lambda told: told > sought)
        return reached == 1 and passed == 0

    def is_missed(self, box, number):
        sought = self.sightings[number][2]
        reached = self.token(box, number, lambda span: span[1] is None or span[1] >= sought,
                             lambda told: told >= sought)
        passed = self.token(box, number, lambda span: span[0] is not None and span[0] > sought,
                            lambda told: told > sought)
        return reached == 0 or passed == 1

    def whole(self):
        return {part: (None, None) for part in self.inputs}

    def tree(self, most=10 ** 6):
        """(nodes, boxes that fit, how many leaves) of the told tree; None of more leaves than most."""
        nodes, fits, leaves = [], [], []

        def grow(box):
            number, many = len(nodes), range(len(self.sightings))
            missed = [at for at in many if self.is_missed(box, at)]
            unfit = [at for at in many if not self.is_fit(box, at)]
            nodes.append(("out", missed[0]) if missed else ("fits",))
            if missed or not unfit:
                leaves.append(number)
                if not missed:
                    fits.append(tuple(box.values()))
                return len(leaves) <= most
            sought = self.sightings[unfit[0]][2]
            part, cut = next((part, cut) for cut in (sought, sought + 1) for part in self.inputs
                             if has_below(box[part], cut) and has_from(box[part], cut))
            if not grow({**box, part: (box[part][0], cut - 1)}):
                return False
            right = len(nodes)
            nodes[number] = ("split", part, cut, number + 1, right)
            return grow({**box, part: (cut, box[part][1])})
        return (nodes, fits, len(leaves)) if grow(self.whole()) else None

    def is_tree(self, thing):
        """By the document's words: whether a thing is a tree of cases for these sightings."""
        if type(thing) is not list or not thing:
            return False
        led = []
        for at, node in enumerate(thing):
            if type(node) is not tuple or not node or node[0] not in ("split", "fits", "out") or type(node[0]) is not str:
                return False
            if len(node) != {"split": 5, "fits": 1, "out": 2}[node[0]]:
                return False
            if node[0] == "split":
                if not any(equal_kinds(node[1], part) for part in self.inputs):
                    return False
                if any(type(part) is not int for part in node[2:]) or not all(at < to < len(thing) for to in node[3:]):
                    return False
                led.extend(node[3:])
            if node[0] == "out" and (type(node[1]) is not int or not 0 <= node[1] < len(self.sightings)):
                return False
        return sorted(led) == list(range(1, len(thing))) and self.is_case(thing, 0, self.whole())

    def is_case(self, thing, at, box):
        node = thing[at]
        if node[0] == "fits":
            return all(self.is_fit(box, number) for number in range(len(self.sightings)))
        if node[0] == "out":
            return self.is_missed(box, node[1])
        _, part, cut, left, right = node
        if not has_below(box[part], cut) or not has_from(box[part], cut):
            return False
        return (self.is_case(thing, left, {**box, part: (box[part][0], cut - 1)})
                and self.is_case(thing, right, {**box, part: (cut, box[part][1])}))


def has_below(span, number):
    """By hand: whether a span has numbers below a number."""
    return span[0] is None or span[0] < number


def has_from(span, number):
    """By hand: whether a span has numbers from a number on."""
    return span[1] is None or span[1] >= number


def lies_in(box, numbers):
    """By hand: whether numbers lie in a box."""
    return all((low is None or low <= number) and (high is None or number <= high)
               for (low, high), number in zip(box, numbers))


def made_sightings(luck, course, most=3, last=8, wide=3, inputs=4):
    """(sightings, given, a feed that shows them, or all but some) by luck, of at most so many inputs; None where none."""
    web = course.web()
    beats = luck.randint(1, last)
    feed = tuple(tuple(luck.randint(0, wide) for _ in range(many)) for many in times_by(web, beats))
    rows, jam = hand_run(course, feed, beats)
    seen = [(beat + 1, lane, token) for beat, row in enumerate(rows) for lane, token in zip(web.lanes(), row)
            if token is not None]
    if jam is not None or not seen:
        return None
    outs = [sight for sight in seen if sight[1] in web.outlets()] or seen
    told = [luck.choice(luck.choice([seen, outs])) for _ in range(luck.randint(1, most))]
    if luck.random() < 0.4:
        at = luck.randrange(len(told))
        told[at] = told[at][:2] + (told[at][2] + luck.choice([-1, 1]),)
    parts = parts_by(web, max(beat for beat, _, _ in told))
    free = luck.sample(parts, min(len(parts), luck.randint(0, inputs)))
    given = [(inlet, at, feed[inlet][at]) for inlet, at in parts if (inlet, at) not in free]
    return told, given, feed


class HandStream:
    """A stream by hand: its web's name, its lifts, its rows and its looks."""

    def __init__(self, of, web):
        self.of, self.lifts, self.rows, self.looks, self.beat = of, [], [[] for _ in web.inlets()], [], 0

    def course(self, web):
        return Course(web, lifts=sorted(self.lifts))

    def hidden(self):
        return [(inlet, at) for inlet, row in enumerate(self.rows) for at, number in enumerate(row) if number is None]

    def cases(self, web):
        """Its looks as sightings by hand, what was pushed by the last one's beat being given."""
        times = times_by(web, max([beat for beat, _, _ in self.looks], default=0))
        given = [(inlet, at, number) for inlet, row in enumerate(self.rows) for at, number in enumerate(row)
                 if number is not None and at < times[inlet]]
        return Cases(self.course(web), self.looks, given)

    def fed(self, numbers):
        """Its rows, its hidden inputs having these numbers."""
        told = dict(zip(self.hidden(), numbers))
        return tuple(tuple(told.get((inlet, at), number) for at, number in enumerate(row)) for inlet, row in enumerate(self.rows))

    def carries(self, web, lane, beat):
        """Whether a lane carries at a beat, by noughts."""
        return beat > 0 and shown_by(self.course(web), fed_by(web, beat, {}), beat, lane) is not None


class HandYard:
    """A yard by hand, by the document's words."""

    def __init__(self):
        self.named, self.done, self.undone = {}, [], []

    def run(self, deeds):
        """The refusal that is due, having done nothing, or None."""
        named = copy.deepcopy(self.named)
        for nth, deed in enumerate(deeds):
            refused = self.does(named, deed)
            if refused:
                return (errors.NoDeed, nth) if refused == "no deed" else refused
        self.done.append((list(deeds), self.named))
        self.named, self.undone = named, []
        return None

    def undo(self):
        if self.done:
            deeds, before = self.done.pop()
            self.undone.append((deeds, self.named))
            self.named = before
            return True
        return False

    def redo(self):
        if self.undone:
            deeds, after = self.undone.pop()
            self.done.append((deeds, self.named))
            self.named = after
            return True
        return False

    def deeds(self):
        return [deed for deeds, _ in self.done for deed in deeds]

    def does(self, named, deed):
        word, name = deed[0], deed[1] if len(deed) > 1 else None
        if word not in ("web", "stream", "step", "lift", "look", "tell", "twin", "change", "drop"):
            return "no deed"
        new = {"web": name, "stream": name, "twin": deed[-1]}.get(word)
        if new is not None and len(named) >= 20:
            return errors.Full, 20
        if new is not None and new in named:
            return errors.Taken, new
        asked = {"web": None, "stream": deed[-1]}.get(word, name)
        kind = Web if word in ("stream", "change") else HandStream
        if asked is not None and (asked not in named or word != "drop" and not isinstance(named[asked], kind)):
            return errors.NoName, asked
        return getattr(self, word)(named, *deed[1:])

    def web(self, named, name, web):
        named[name] = web

    def stream(self, named, name, of):
        named[name] = HandStream(of, named[of])

    def step(self, named, name, numbers):
        stream, web = named[name], named[named[name].of]
        beat = stream.beat + 1
        inlets = [at for at, (_, rhythm) in enumerate(web.inlets()) if (rhythm * beat)[beat - 1] == "x"]
        if beat > 40:
            return errors.Full, 40
        if len(numbers) != len(inlets):
            return errors.Due, len(inlets)
        if len(stream.hidden()) + list(numbers).count(None) > 6:
            return errors.Full, 6
        if hand_run(stream.course(web), fed_by(web, beat, {}), beat)[1]:
            return errors.Jams, beat
        for inlet, number in zip(inlets, numbers):
            stream.rows[inlet].append(number)
        stream.beat = beat

    def lift(self, named, name, gate, word):
        stream, gates = named[name], named[named[name].of].gates()
        if gate not in range(len(gates)) or gates[gate][0] not in ("hold", "wait", "cross"):
            return errors.NoGate, gate
        others = [told for told in stream.lifts if told[:2] != (stream.beat, gate)]
        if len(others) > 11:
            return errors.Full, 12
        stream.lifts = others + [(stream.beat, gate, word)]

    def look(self, named, name, lane, number):
        stream, web = named[name], named[named[name].of]
        if lane not in web.lanes():
            return errors.NoLane, lane
        if not stream.carries(web, lane, stream.beat):
            return errors.NoToken, lane
        if len(stream.looks) > 7:
            return errors.Full, 8
        stream.looks.append((stream.beat, lane, number))
        return self.seen(name, stream, web)

    def tell(self, named, name, inlet, nth, number):
        stream, web = named[name], named[named[name].of]
        if (inlet, nth) not in stream.hidden():
            return errors.NoInput, inlet, nth
        stream.rows[inlet][nth] = number
        return self.seen(name, stream, web)

    def seen(self, name, stream, web):
        told = stream.cases(web).tree(200)
        if told is None:
            return errors.TooMany, 200
        return None if told[1] else (errors.Unseen, name)

    def twin(self, named, name, other):
        named[other] = copy.deepcopy(named[name])

    def change(self, named, name, web):
        if [rhythm for _, rhythm in web.inlets()] != [rhythm for _, rhythm in named[name].inlets()]:
            return errors.Unfit, name
        streams = [key for key, thing in named.items() if isinstance(thing, HandStream) and thing.of == name]
        gates = web.gates()
        for key in streams:
            stream = named[key]
            if any(gate >= len(gates) or gates[gate][0] not in ("hold", "wait", "cross") for _, gate, _ in stream.lifts):
                return errors.Unfit, key
            if hand_run(stream.course(web), fed_by(web, stream.beat, {}), stream.beat)[1]:
                return errors.Unfit, key
            if not all(lane in web.lanes() and stream.carries(web, lane, beat) for beat, lane, _ in stream.looks):
                return errors.Unfit, key
        for key in streams:
            refused = self.seen(key, named[key], web)
            if refused:
                return refused
        named[name] = web

    def drop(self, named, name):
        if any(isinstance(thing, HandStream) and thing.of == name for thing in named.values()):
            return errors.Needed, name
        del named[name]


def made_deed(luck, yard, names="abcdefg", wide=3):
    """A deed for a yard by luck, often one that can be done."""
    there = yard.names()
    streams = [name for name in there if due(yard.web, name)]
    webs = [name for name in there if name not in streams]
    word = luck.choice(["web", "stream", "lift", "tell", "twin", "change", "drop"] + ["step"] * 8 + ["look"] * 4)
    if not webs or word == "web":
        return ("web", luck.choice(names), made_web(luck, luck.randint(0, 4), most=4, inlets=luck.choice([1, 1, 2])))
    if word == "change":
        web = yard.web(luck.choice(webs))
        return ("change", luck.choice(webs), luck.choice([other_of(luck, web), made_web(luck, 2, inlets=1)]))
    if not streams or word == "stream":
        return ("stream", luck.choice(names), luck.choice(webs))
    if word == "drop":
        return ("drop", luck.choice(there))
    name = luck.choice(streams * 20 + list(names))
    if due(yard.now, name):
        return (luck.choice([("step", name, (1,)), ("twin", name, "z"), ("look", name, "a", 1), ("lift", name, 0, "up")]))
    if word == "twin":
        return ("twin", name, luck.choice(names))
    if word == "lift":
        return ("lift", name, luck.randint(0, 3), luck.choice(["up", "down"]))
    if word == "tell":
        return ("tell", name, *luck.choice((yard.hidden(name) or [(0, 0)]) * 5 + [(1, 1)]), luck.randint(0, wide))
    if word == "look":
        lane = luck.choice(yard.course(name).web().lanes())
        span = yard.carried(name, lane) if yard.now(name) else None
        low, high = span or (0, 0)
        low, high = 0 if low is None else low, wide if high is None else high
        inner_number = luck.randint(min(low, high), max(low, high))
        return ("look", name, lane, luck.choice([low, high, inner_number, luck.randint(-1, wide)]))
    many = len(yard.due(name)) if luck.random() < 0.95 else 3
    return ("step", name, tuple(luck.choice([None, luck.randint(0, wide), luck.randint(0, wide)]) for _ in range(many)))


# A course, and sightings and given numbers by how many leaves their told tree has.
HOLDS = Course(Web([("a", "x")], [("hold", "a", "b", 3, 1), ("hold", "b", "c", 2, 1)]))
LEAVES = {
    199: ([(8, "c", 1), (5, "b", 1), (7, "c", 0)], [(0, 5, 3)]),
    200: ([(6, "c", 0), (6, "b", 0), (6, "c", 3)], []),
    201: ([(6, "c", 3), (6, "b", 1), (6, "c", 3)], []),
    205: ([(7, "c", 3), (6, "b", 0), (6, "c", 1)], [(0, 3, 0)]),
}


def leaf_of(tree, numbers):
    """The leaf to which numbers lead, a dict by inputs."""
    node = tree[0]
    while node[0] == "split":
        node = tree[node[3] if numbers[node[1]] < node[2] else node[4]]
    return node


def other_tree(luck, cases, most=150):
    """Another tree of cases by luck: inputs are split in any order, and nodes stand in any order behind their own."""
    numbers = sorted({number + more for _, _, number in cases.sightings for more in (-1, 0, 1, 2)})
    nodes, line = [None], [(0, cases.whole())]
    while line:
        at, box = line.pop(luck.randrange(len(line)))
        missed = [number for number in range(len(cases.sightings)) if cases.is_missed(box, number)]
        if missed:
            nodes[at] = ("out", luck.choice(missed))
            continue
        if all(cases.is_fit(box, number) for number in range(len(cases.sightings))) and luck.random() < 0.9:
            nodes[at] = ("fits",)
            continue
        cuts = [(part, cut) for part in cases.inputs for cut in numbers + [10 ** 40]
                if has_below(box[part], cut) and has_from(box[part], cut)]
        if not cuts or len(nodes) > most:
            return None
        part, cut = luck.choice([cut for cut in cuts if cut[1] < 10 ** 40 or luck.random() < 0.1] or cuts)
        left, right = luck.sample([len(nodes), len(nodes) + 1], 2)
        nodes[at] = ("split", part, cut, left, right)
        nodes.extend([None, None])
        line.append((left, {**box, part: (box[part][0], cut - 1)}))
        line.append((right, {**box, part: (cut, box[part][1])}))
    return nodes


NAME, COUNT = "[a-z]{1,8}", "(?:0|[1-9]|1[0-2])"
# What a row is by itself, by the document's words; lanes all unlike, and r no more than c, asked apart.
ROW_FORMS = {
    0: [rf"inlet ({NAME}) (?=-*x)[x-]{{1,6}}"],
    1: [rf"hold ({NAME}) ({NAME}) {COUNT} {COUNT}", rf"wait ({NAME}) ({NAME}) {COUNT}", rf"lag ({NAME}) ({NAME}) (?!0){COUNT}",
        rf"deal ({NAME}) ({NAME}) ({NAME}) [lr]{{1,6}}", rf"join ({NAME}) ({NAME}) ({NAME}) {COUNT}",
        rf"cross ({NAME}) ({NAME}) ({NAME}) ({NAME})"],
    2: [r"lift (?:0|[1-9][0-9]{0,59}|10{60}) [0-9] (?:up|down)"],
}


def sort_by_hand(row):
    """0 of an inlet, 1 of a gate, 2 of a lift, by the row alone; None of what is none."""
    for sort, forms in ROW_FORMS.items():
        for form in forms:
            found = re.fullmatch(form, row, re.ASCII)
            if found and len(set(found.groups())) == len(found.groups()):
                words = row.split(" ")
                if words[0] == "hold" and int(words[4]) > int(words[3]):
                    return None
                return sort
    return None


def row_by_hand(text, last):
    """The row at which a text is no web's, or no course's, None where each is so by itself."""
    sorts = []
    for at, row in enumerate(text.split("\n")):
        sort = sort_by_hand(row)
        if sort is None or sort > last or sort < max(sorts, default=0) or (at == 0 and sort != 0):
            return at
        sorts.append(sort)
    return None


def due_by_hand(text, last):
    """The refusal that is due of a web's text, last 1, or a course's, last 2."""
    at = row_by_hand(text, last)
    if at is not None:
        return Unread, at
    rows = [tuple(int(word) if word.isdigit() else word for word in row.split(" ")) for row in text.split("\n")]
    try:
        web = Web([row[1:] for row in rows if row[0] == "inlet"], [row for row in rows if row[0] not in ("inlet", "lift")])
        Course(web, lifts=[row[1:] for row in rows if row[0] == "lift"])
    except (NoWeb, NoCourse):
        return Unread, len(rows)
    return None


def spoilt_texts(luck, text, many):
    """Texts that are otherwise at some place, by luck."""
    found = []
    for _ in range(many):
        rows = text.split("\n")
        at, turn = luck.randrange(len(rows)), luck.randrange(9)
        if turn == 0:
            del rows[at]
        elif turn == 1:
            rows.insert(luck.randrange(len(rows) + 1), rows[at])
        elif turn == 2:
            odd = luck.choice(["", " ", "lift 0 0 up", "inlet q x", "wait q r 0", "stream a b"])
            rows.insert(luck.randrange(len(rows) + 1), odd)
        elif turn == 3:
            other = luck.randrange(len(rows))
            rows[at], rows[other] = rows[other], rows[at]
        elif turn < 7:
            words = rows[at].split(" ")
            place = luck.randrange(len(words))
            odd = ["0", "1", "2", "12", "13", "-1", "-0", "00", "01", "x", "-", "lr", "a", "A", "", "up", "inlet", "hold", "?",
                   "1.0", "+1", "1_0", "\u0661", str(10 ** 60), str(10 ** 60 + 1), *words]
            words[place:place + luck.choice([0, 1, 1])] = [luck.choice(odd)]
            rows[at] = " ".join(words)
        else:
            place = luck.randrange(len(rows[at]) + 1)
            rows[at] = rows[at][:place] + luck.choice(" \n-0x1la\t\r") + rows[at][place + luck.choice([0, 1]):]
        found.append("\n".join(rows))
    return found


# Deeds that can be done one by one, and the text of a yard that has done them.
YARD_DEEDS = [
    ("web", "w", Web([("a", "x")], [("hold", "a", "b", 1, 0)])), ("stream", "s", "w"), ("step", "s", (None,)),
    ("step", "s", (10 ** 12,)), ("lift", "s", 0, "up"), ("lift", "s", 0, "down"), ("look", "s", "b", -4),
    ("tell", "s", 0, 0, -4), ("twin", "s", "t"), ("change", "w", Web([("a", "x")], [("wait", "a", "b", 1)])),
    ("web", "none", Web([("q", "--x")])), ("stream", "u", "none"), ("step", "u", ()), ("drop", "u")]
YARD_TEXT = f"""web w
inlet a x
hold a b 1 0
stream s w
step s ?
step s {10 ** 12}
lift s 0 up
lift s 0 down
look s b -4
tell s 0 0 -4
twin s t
change w
inlet a x
wait a b 1
web none
inlet q --x
stream u none
step u
drop u"""
DEED_WORDS = ("web", "stream", "step", "lift", "look", "tell", "twin", "change", "drop")
