"""Runs: those who go along the line as one, told by a first and a last bead, their place and their speed."""

from beadway.exact import added, compared, lessened, multiplied, parted


def runs_of(row):
    """Each bead of a row by itself, as at moment 0."""
    return [(at, at, place, speed) for at, (weight, place, speed) in enumerate(row)]


def moved(runs, wait):
    """The runs behind so long a wait, all going straight."""
    return [(first, last, added(place, multiplied(speed, wait)), speed) for first, last, place, speed in runs]


def wait_between(one, other):
    """How long two neighbours go until they meet; None if the first one isn't faster."""
    first, last, place, speed = one
    other_first, other_last, other_place, other_speed = other
    closing = lessened(speed, other_speed)
    if closing[0] <= 0:
        return None
    return parted(lessened(other_place, place), closing)


def first_wait(runs):
    """How long all go until any meet; None if none ever do."""
    least = None
    for at in range(1, len(runs)):
        wait = wait_between(runs[at - 1], runs[at])
        if wait is not None and (least is None or compared(wait, least) < 0):
            least = wait
    return least


def by_places(runs):
    """The runs in parts, each of all that are at one place."""
    parts = []
    for run in runs:
        if parts and parts[-1][0][2] == run[2]:
            parts[-1].append(run)
        else:
            parts.append([run])
    return parts


def part_stretch(part):
    """The stretch of all beads of a part."""
    return (part[0][0], part[-1][1])


def met_stretches(parts):
    """The stretches of the parts in which some meet, in order."""
    return [part_stretch(part) for part in parts if len(part) > 1]
