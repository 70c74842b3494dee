"""How a story goes on from one meeting to the next."""

from beadway.checks import STICK
from beadway.errors import Crowded, TooMany
from beadway.exact import added, lessened, weighed_mean
from beadway.knocks import knock_speeds
from beadway.rows import stretch_weights
from beadway.runs import by_places, first_wait, met_stretches, moved, part_stretch

MOST_EXCHANGES = 12


class Knot:
    """A moment behind which all go straight: the row's own, a meeting's or a change's."""

    def __init__(self, moment, runs, stretches, used):
        self.moment = moment
        self.runs = runs
        self.stretches = stretches
        self.used = used


def part_weights(row, part):
    """The weights of the beads of a part."""
    first, last = part_stretch(part)
    return stretch_weights(row, first, last)


def part_speeds(part):
    """The speeds of the runs of a part."""
    return [speed for first, last, place, speed in part]


def stuck_run(row, part):
    """The one run that those at one place are from then on."""
    weights = [sum(stretch_weights(row, first, last)) for first, last, place, speed in part]
    first, last = part_stretch(part)
    return (first, last, part[0][2], weighed_mean(weights, part_speeds(part)))


def bounced_speeds(row, part):
    """The speeds that those at one place have behind it."""
    speeds = part_speeds(part)
    if len(part) == 2:
        weight, other = part_weights(row, part)
        return list(knock_speeds(weight, other, speeds[0], speeds[1]))
    # Three or more weigh alike here; one alone keeps its speed by this, too.
    return speeds[::-1]


def bounced_runs(row, parts):
    """All runs behind a meeting of a bouncing story."""
    runs = []
    for part in parts:
        for (first, last, place, old), speed in zip(part, bounced_speeds(row, part)):
            runs.append((first, last, place, speed))
    return runs


def is_unlike(row, part):
    """Whether not all of a part are of one weight."""
    weights = part_weights(row, part)
    return any([weight != weights[0] for weight in weights])


def used_behind(row, parts, used):
    """How many exchanges of unlike weights there are behind a meeting, which is refused where it must be."""
    unlike = [part for part in parts if is_unlike(row, part)]
    if any([len(part) > 2 for part in unlike]):
        raise Crowded("three or more beads, not all of one weight, come to one place")
    if used + len(unlike) > MOST_EXCHANGES:
        raise TooMany("there would be more than 12 exchanges of unlike weights")
    return used + len(unlike)


def coming_moment(knot):
    """The moment of the first meeting behind a knot; None if there is none."""
    wait = first_wait(knot.runs)
    if wait is None:
        return None
    return added(knot.moment, wait)


def meeting_knot(row, kind, knot, moment):
    """The knot of the first meeting behind a knot, which is at this moment."""
    parts = by_places(moved(knot.runs, lessened(moment, knot.moment)))
    stretches = met_stretches(parts)
    if kind == STICK:
        return Knot(moment, [stuck_run(row, part) for part in parts], stretches, 0)
    used = used_behind(row, parts, knot.used)
    return Knot(moment, bounced_runs(row, parts), stretches, used)
