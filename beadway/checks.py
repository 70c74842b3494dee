"""What a weight, a bead, a row, a moment and a kind of story are, and the refusal of what is none."""

from beadway.errors import BadBead, BadKind, BadMoment, BadRow
from beadway.exact import compared, is_share, is_whole

MOST_WEIGHT = 60
MOST_TOP = 1000000
MOST_BOTTOM = 60
MOST_BEADS = 10
STICK = "stick"
BOUNCE = "bounce"


def is_weight(value):
    """Whether a bead may weigh that."""
    return is_whole(value) and 1 <= value <= MOST_WEIGHT


def is_row_share(value):
    """Whether it is a share that a bead of a row may have as its place or speed."""
    return is_share(value) and -MOST_TOP <= value[0] <= MOST_TOP and value[1] <= MOST_BOTTOM


def is_bead(value):
    """Whether it is a bead."""
    if not isinstance(value, tuple) or len(value) != 3:
        return False
    weight, place, speed = value
    return is_weight(weight) and is_row_share(place) and is_row_share(speed)


def places_rise(beads):
    """Whether each bead is ahead of the one before it."""
    return all([compared(beads[at - 1][1], beads[at][1]) < 0 for at in range(1, len(beads))])


def is_row(value):
    """Whether it is a row."""
    if not isinstance(value, list) or not 1 <= len(value) <= MOST_BEADS:
        return False
    return all([is_bead(bead) for bead in value]) and places_rise(value)


def is_bead_of(row, bead):
    """Whether it is the count of a bead of this row."""
    return is_whole(bead) and 0 <= bead < len(row)


def is_moment(value):
    """Whether it is a moment."""
    return is_share(value) and value[0] >= 0


def need_row(row):
    """Refuse what is no row."""
    if not is_row(row):
        raise BadRow("a row is a list of 1 to 10 beads whose places rise")


def need_bead(row, bead):
    """Refuse what is no bead of this row."""
    if not is_bead_of(row, bead):
        raise BadBead("there is no such bead in the row")


def need_stretch(row, first, last):
    """Refuse what is no stretch of this row's beads."""
    if not is_bead_of(row, first) or not is_bead_of(row, last) or last < first:
        raise BadBead("there is no such stretch of beads in the row")


def need_moment(moment):
    """Refuse what is no moment."""
    if not is_moment(moment):
        raise BadMoment("a moment is a share from 0 on")


def need_kind(kind):
    """Refuse what is no kind of story."""
    if not isinstance(kind, str) or kind not in (STICK, BOUNCE):
        raise BadKind("the beads of a story stick or bounce")
