"""Whether the middles of a row's stretches hold beads together or part them, and the clumps that come of it."""

from beadway.exact import NOUGHT, compared, latest, weighed_mean
from beadway.rows import stretch_middle, stretch_speeds, stretch_weights
from beadway.runs import wait_between


def is_behind(row, first, cut, last, moment):
    """Whether the middle of the stretch up to the cut is behind the middle of the stretch from there on."""
    left = stretch_middle(row, first, cut, moment)
    right = stretch_middle(row, cut + 1, last, moment)
    return compared(left, right) < 0


def holds(row, first, last, moment):
    """Whether no way of cutting a stretch in two leaves its left part's middle behind its right part's."""
    return not any([is_behind(row, first, cut, last, moment) for cut in range(first, last)])


def parts_at(row, cut, moment):
    """Whether the middle of each stretch that ends with a bead is behind that of each that begins with the next."""
    lefts = [stretch_middle(row, first, cut, moment) for first in range(cut + 1)]
    rights = [stretch_middle(row, cut + 1, last, moment) for last in range(cut + 1, len(row))]
    return all([compared(left, right) < 0 for left in lefts for right in rights])


def middle_run(row, first, last):
    """The way of a stretch's middle as a run, from moment 0 on."""
    speed = weighed_mean(stretch_weights(row, first, last), stretch_speeds(row, first, last))
    return (first, last, stretch_middle(row, first, last, NOUGHT), speed)


def middles_wait(row, first, cut, last):
    """The moment at which the middles of both parts of a stretch would be at one place; None if they never are."""
    return wait_between(middle_run(row, first, cut), middle_run(row, cut + 1, last))


def has_met(wait, moment):
    """Whether those who meet at such a moment, if any, have met up to a moment, or, if that is None, in the end."""
    return wait is not None and (moment is None or compared(wait, moment) <= 0)


def clumps_by(row, moment):
    """The clumps of a row at a moment, or, if that is None, in the end."""
    clumps = []
    for last in range(len(row)):
        first = last
        # By each clump that is joined the middle is another one, which may have met the next clump's, too.
        while clumps and has_met(middles_wait(row, clumps[-1][0], first - 1, last), moment):
            first = clumps.pop()[0]
        clumps.append((first, last))
    return clumps


def held_from(row, first, last):
    """The first moment at which a clump that is there in the end is one."""
    return latest([middles_wait(row, first, cut, last) for cut in range(first, last)])
