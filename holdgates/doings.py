"""What deeds do. All that stands in a yard is a dict of webs and streams by their names, in the order of coming."""

from holdgates.errors import Full, Jams, Needed, NoCourse, NoLane, NoName, Taken, Unfit, Unseen
from holdgates.goings import carrying
from holdgates.names import is_name
from holdgates.streams import Stream, begun
from holdgates.webs import Web

MOST_NAMES = 20


def web_of(named, name):
    """The web of a name; refused where there is none."""
    if not is_name(name) or not isinstance(named.get(name), Web):
        raise NoName(name)
    return named[name]


def stream_of(named, name):
    """The stream of a name; refused where there is none."""
    if not is_name(name) or not isinstance(named.get(name), Stream):
        raise NoName(name)
    return named[name]


def behind(named, deed):
    """All that stands behind a deed; refused where it can't be done."""
    action = ACTIONS[deed[0]]
    return action(named, deed[1:])


def _web(named, told):
    name, web = told
    _check_new(named, name)
    return _with(named, name, web)


def _stream(named, told):
    name, of = told
    _check_new(named, name)
    return _with(named, name, begun(of, web_of(named, of)))


def _step(named, told):
    name, numbers = told
    return _with(named, name, stream_of(named, name).stepped(numbers))


def _lift(named, told):
    name, gate, word = told
    return _with(named, name, stream_of(named, name).lifted(gate, word))


def _look(named, told):
    name, lane, number = told
    return _with_seen(named, name, stream_of(named, name).looked(lane, number))


def _tell(named, told):
    name, inlet, nth, number = told
    return _with_seen(named, name, stream_of(named, name).told(inlet, nth, number))


def _twin(named, told):
    name, other = told
    _check_new(named, other)
    return _with(named, other, stream_of(named, name))


def _change(named, told):
    name, web = told
    rhythms = [rhythm for _, rhythm in web_of(named, name).inlets()]
    if [rhythm for _, rhythm in web.inlets()] != rhythms:
        raise Unfit(name)
    after = _with(named, name, web)
    streams = _streams_of(named, name)
    for other in streams:
        after[other] = _fitted(other, named[other], web)
    for other in streams:
        _check_seen(other, after[other])
    return after


def _drop(named, told):
    name = told[0]
    if name not in named:
        raise NoName(name)
    if len(_streams_of(named, name)) > 0:
        raise Needed(name)
    return {other: named[other] for other in named if other != name}


ACTIONS = {
    "web": _web, "stream": _stream, "step": _step, "lift": _lift, "look": _look, "tell": _tell, "twin": _twin,
    "change": _change, "drop": _drop,
}


def _with(named, name, thing):
    """All that stands, this thing by its name too."""
    after = dict(named)
    after[name] = thing
    return after


def _with_seen(named, name, stream):
    """All that stands, this stream by its name; refused where its looks can't be."""
    _check_seen(name, stream)
    return _with(named, name, stream)


def _check_new(named, name):
    """Refuses one name more than there is room for, and one that is there."""
    if len(named) >= MOST_NAMES:
        raise Full(MOST_NAMES)
    if name in named:
        raise Taken(name)


def _check_seen(name, stream):
    """Refuses a stream whose looks no numbers let be."""
    if len(stream.found()) == 0:
        raise Unseen(name)


def _streams_of(named, web):
    """The names of the streams of the web called so, in the order of their coming."""
    return [name for name in named if isinstance(named[name], Stream) and named[name].of() == web]


def _fitted(name, stream, web):
    """The stream that has gone through another web; refused where it can't have."""
    try:
        after = stream.changed(web)
        carrying(after.course(), after.now())
        are_carried = all([after.carries(lane, beat) for beat, lane, _ in after.looks()])
    except (NoCourse, Jams, NoLane):
        raise Unfit(name) from None
    if not are_carried:
        raise Unfit(name)
    return after
