"""Shares: pairs of a top and a bottom in lowest terms, reckoned with exactly."""

from beadway.errors import BadShare
from beadway.exact import added, compared, is_share, is_whole, lessened, lowest, multiplied, parted


def need_both(one, other):
    """Refuse what is not two shares."""
    if not is_share(one) or not is_share(other):
        raise BadShare("a share is a top and a bottom from 1 on, in lowest terms")


def share(top, bottom):
    """The share that is worth the top parted by the bottom."""
    if not is_whole(top) or not is_whole(bottom):
        raise BadShare("a top and a bottom are whole numbers")
    if bottom == 0:
        raise BadShare("nothing is parted by 0")
    return lowest(top, bottom)


def plus(one, other):
    """Both put together."""
    need_both(one, other)
    return added(one, other)


def minus(one, other):
    """The second taken off the first."""
    need_both(one, other)
    return lessened(one, other)


def times(one, other):
    """The first times the second."""
    need_both(one, other)
    return multiplied(one, other)


def over(one, other):
    """The first parted by the second."""
    need_both(one, other)
    if other[0] == 0:
        raise BadShare("nothing is parted by 0")
    return parted(one, other)


def order(one, other):
    """1 if the first is worth more, 0 if as much, -1 if less."""
    need_both(one, other)
    return compared(one, other)
