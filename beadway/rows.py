"""Rows of beads: what a stretch weighs, its drive, straight places and middles."""

from beadway.checks import need_bead, need_moment, need_row, need_stretch
from beadway.exact import added, multiplied, weighed_mean, weighed_sum


def stretch_weights(row, first, last):
    """The weights of the beads of a stretch."""
    return [weight for weight, place, speed in row[first:last + 1]]


def straight_place(bead, moment):
    """Where a bead would be at a moment if it never met another."""
    weight, place, speed = bead
    return added(place, multiplied(speed, moment))


def stretch_speeds(row, first, last):
    """The speeds of the beads of a stretch."""
    return [speed for weight, place, speed in row[first:last + 1]]


def stretch_middle(row, first, last, moment):
    """The middle of a stretch of a row at a moment."""
    places = [straight_place(bead, moment) for bead in row[first:last + 1]]
    return weighed_mean(stretch_weights(row, first, last), places)


def weight_of(row, first, last):
    """What the beads from the first to the last weigh together."""
    need_row(row)
    need_stretch(row, first, last)
    return sum(stretch_weights(row, first, last))


def drive_of(row, first, last):
    """Each one's weight times its speed, from the first to the last, together."""
    need_row(row)
    need_stretch(row, first, last)
    return weighed_sum(stretch_weights(row, first, last), stretch_speeds(row, first, last))


def straight(row, bead, moment):
    """A bead's place and its speed times the moment, together."""
    need_row(row)
    need_bead(row, bead)
    need_moment(moment)
    return straight_place(row[bead], moment)


def middle(row, first, last, moment):
    """The middle, by weight, of the straight places from the first to the last."""
    need_row(row)
    need_stretch(row, first, last)
    need_moment(moment)
    return stretch_middle(row, first, last, moment)
