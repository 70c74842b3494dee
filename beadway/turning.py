"""Rows turned into others whose stories are alike."""

from beadway.checks import is_row, need_row
from beadway.errors import BadShare, TooFar
from beadway.exact import added, is_share, multiplied, scaled


def mirrored(row):
    """The row from its last bead to its first, each place and speed with the other sign."""
    need_row(row)
    return [(weight, scaled(-1, place), scaled(-1, speed)) for weight, place, speed in row[::-1]]


def with_speeds(row, speeds):
    """The row with these speeds; refused if that is none."""
    beads = [(weight, place, speed) for (weight, place, old), speed in zip(row, speeds)]
    if not is_row(beads):
        raise TooFar("a speed leaves the limits of a row")
    return beads


def carried(row, speed):
    """The row with a speed put to each one's."""
    need_row(row)
    if not is_share(speed):
        raise BadShare("a speed is a share")
    return with_speeds(row, [added(old, speed) for weight, place, old in row])


def slowed(row, share):
    """The row with each speed multiplied by a share above 0."""
    need_row(row)
    if not is_share(share) or share[0] <= 0:
        raise BadShare("speeds are multiplied by a share above 0")
    return with_speeds(row, [multiplied(old, share) for weight, place, old in row])
