"""Moments of stories that were never changed, told at once, without their meetings."""

from beadway.answers import One, Parted
from beadway.checks import need_moment, need_row, need_stretch
from beadway.clumps import clumps_by, held_from, middle_run
from beadway.errors import BadBead, Unlike
from beadway.exact import compared, latest
from beadway.rows import straight_place
from beadway.runs import moved, runs_of, wait_between


def stuck_at(row, moment):
    """The state of the sticking story at a moment."""
    need_row(row)
    need_moment(moment)
    return moved([middle_run(row, first, last) for first, last in clumps_by(row, moment)], moment)


def together(row, moment, one, other):
    """Whether a bead and a later one are one at a moment of the sticking story."""
    need_row(row)
    need_moment(moment)
    need_stretch(row, one, other)
    if one == other:
        raise BadBead("the second bead isn't later")
    clumps = [(first, last) for first, last in clumps_by(row, moment) if first <= one <= last]
    first, last = clumps[0]
    if other <= last:
        return One(first, last)
    return Parted(last)


def ended(row):
    """The first moment at which all are one that are so in the end of the sticking story, and their stretches."""
    need_row(row)
    stretches = clumps_by(row, None)
    return (latest([held_from(row, first, last) for first, last in stretches]), stretches)


def need_alike(row):
    """Refuse a row whose beads are not all of one weight."""
    if any([weight != row[0][0] for weight, place, speed in row]):
        raise Unlike("the beads are not all of one weight")


def is_ahead(one, other):
    """Whether a run comes ahead of another one by their places, or, where these are alike, by their speeds."""
    by_place = compared(one[2], other[2])
    return by_place < 0 or by_place == 0 and compared(one[3], other[3]) < 0


def in_order(runs):
    """The runs in the order of the line."""
    ordered = []
    for run in runs:
        at = len([other for other in ordered if is_ahead(other, run)])
        ordered.insert(at, run)
    return ordered


def bounced_at(row, moment):
    """The state of the bouncing story of beads of one weight at a moment."""
    need_row(row)
    need_alike(row)
    need_moment(moment)
    ways = in_order(moved(runs_of(row), moment))
    return [(at, at, place, speed) for at, (first, last, place, speed) in enumerate(ways)]


def met(row, moment):
    """How many exchanges the bouncing story of beads of one weight has up to a moment."""
    need_row(row)
    need_alike(row)
    need_moment(moment)
    places = [straight_place(bead, moment) for bead in row]
    return len([True for later in range(len(row)) for earlier in range(later)
                if compared(places[earlier], places[later]) >= 0])


def last_met(row):
    """The moment of the last exchange of the bouncing story of beads of one weight; None if there is none."""
    need_row(row)
    need_alike(row)
    runs = runs_of(row)
    waits = [wait_between(runs[earlier], runs[later]) for later in range(len(row)) for earlier in range(later)]
    moments = [wait for wait in waits if wait is not None]
    return latest(moments) if moments else None
