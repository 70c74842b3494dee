"""Who would meet whom, and when, if all went straight."""

from beadway.answers import Meet, Never
from beadway.checks import need_bead, need_row
from beadway.errors import BadBead
from beadway.runs import by_places, first_wait, met_stretches, moved, runs_of, wait_between


def pair_meets(row, bead):
    """Whether a bead and the next one would meet, and when."""
    need_row(row)
    need_bead(row, bead)
    if bead == len(row) - 1:
        raise BadBead("there is no bead behind the last one")
    runs = runs_of(row)
    wait = wait_between(runs[bead], runs[bead + 1])
    if wait is None:
        return Never()
    return Meet(wait)


def first_meet(row):
    """The first moment at which any would meet, and all stretches at one place then; None if none ever meet."""
    need_row(row)
    runs = runs_of(row)
    wait = first_wait(runs)
    if wait is None:
        return None
    return (wait, met_stretches(by_places(moved(runs, wait))))
