"""Whether the middles of a row's stretches hold beads together or part them."""

from beadway.exact import compared
from beadway.rows import stretch_middle


def is_behind(row, first, cut, last, moment):
    """Whether the middle of the stretch up to the cut is behind the middle of the stretch from there on."""
    left = stretch_middle(row, first, cut, moment)
    right = stretch_middle(row, cut + 1, last, moment)
    return compared(left, right) < 0


def holds(row, first, last, moment):
    """Whether no way of cutting a stretch in two leaves its left part's middle behind its right part's."""
    return not any([is_behind(row, first, cut, last, moment) for cut in range(first, last)])


def parts_at(row, cut, moment):
    """Whether the middle of each stretch that ends with a bead is behind that of each that begins with the next."""
    return all([is_behind(row, first, cut, last, moment)
                for first in range(cut + 1) for last in range(cut + 1, len(row))])
