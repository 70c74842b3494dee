"""Lists of events, judged by the story that they are said to be of."""

from beadway.answers import Right, Wrong
from beadway.checks import is_moment, need_kind, need_moment, need_row
from beadway.errors import BadEvents
from beadway.exact import is_whole
from beadway.faults import first_fault

MOST_EVENTS = 60


def is_pair(value):
    """Whether it is a pair."""
    return isinstance(value, tuple) and len(value) == 2


def is_stretch(value):
    """Whether it is a pair of whole numbers, of whatever size."""
    return is_pair(value) and is_whole(value[0]) and is_whole(value[1])


def is_event(value):
    """Whether it is a pair of a moment and a list of stretches, of whatever story."""
    if not is_pair(value) or not is_moment(value[0]) or not isinstance(value[1], list):
        return False
    return all([is_stretch(stretch) for stretch in value[1]])


def need_events(events):
    """Refuse what is no list of events that can be judged."""
    if not isinstance(events, list) or len(events) > MOST_EVENTS or not all([is_event(event) for event in events]):
        raise BadEvents("events are a list of at most 60 pairs of a moment and a list of pairs of whole numbers")


def judged(row, kind, moment, events):
    """Whether they are just the events of the row's story up to a moment."""
    need_row(row)
    need_kind(kind)
    need_moment(moment)
    need_events(events)
    count = first_fault(row, kind, moment, events)
    if count is None:
        return Right()
    return Wrong(count)
