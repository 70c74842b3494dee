"""Exact reckoning with shares that are known to be shares."""

NOUGHT = (0, 1)


def is_whole(value):
    """Whether it is a whole number; True and False are none."""
    return isinstance(value, int) and not isinstance(value, bool)


def common(one, other):
    """The greatest number that goes into both; the other one is above 0."""
    while other:
        one, other = other, one % other
    return one


def lowest(top, bottom):
    """The share worth the top parted by the bottom, which is not 0."""
    if bottom < 0:
        top, bottom = -top, -bottom
    divisor = common(top, bottom)
    return (top // divisor, bottom // divisor)


def is_share(value):
    """Whether it is a share of any size."""
    if not isinstance(value, tuple) or len(value) != 2:
        return False
    top, bottom = value
    return is_whole(top) and is_whole(bottom) and bottom >= 1 and common(top, bottom) == 1


def added(one, other):
    """Both put together."""
    return lowest(one[0] * other[1] + other[0] * one[1], one[1] * other[1])


def lessened(one, other):
    """The second taken off the first."""
    return lowest(one[0] * other[1] - other[0] * one[1], one[1] * other[1])


def multiplied(one, other):
    """The first times the second."""
    return lowest(one[0] * other[0], one[1] * other[1])


def parted(one, other):
    """The first parted by the second, which is not 0."""
    return lowest(one[0] * other[1], one[1] * other[0])


def compared(one, other):
    """1 if the first is worth more, 0 if as much, -1 if less."""
    left = one[0] * other[1]
    right = other[0] * one[1]
    if left > right:
        return 1
    if left < right:
        return -1
    return 0


def latest(moments):
    """The greatest of some moments; 0 if there are none."""
    last = NOUGHT
    for moment in moments:
        if compared(moment, last) > 0:
            last = moment
    return last


def scaled(number, one):
    """A whole number times a share."""
    return lowest(number * one[0], one[1])


def weighed_sum(weights, shares):
    """Each weight times its share, together."""
    total = NOUGHT
    for weight, one in zip(weights, shares):
        total = added(total, scaled(weight, one))
    return total


def weighed_mean(weights, shares):
    """Each weight times its share, together, parted by all weights."""
    return parted(weighed_sum(weights, shares), (sum(weights), 1))
