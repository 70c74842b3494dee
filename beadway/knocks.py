"""The speeds of beads behind their meeting."""

from beadway.checks import is_weight
from beadway.errors import BadShare, BadWeight
from beadway.exact import is_share, lessened, multiplied, weighed_mean


def knock_speeds(weight, other, one, two):
    """The speeds of two that bounce."""
    # Seen from the middle of both, a bounce turns each speed about and keeps its size:
    # so drive and weight times speed times speed stay.
    common_speed = weighed_mean([weight, other], [one, two])
    twice = multiplied((2, 1), common_speed)
    return (lessened(twice, one), lessened(twice, two))


def need_weights(weights):
    """Refuse what is no list of weights, one at least."""
    if not isinstance(weights, list) or len(weights) == 0:
        raise BadWeight("there is no list of weights, one at least")
    if not all([is_weight(weight) for weight in weights]):
        raise BadWeight("a weight is a whole number from 1 to 60")


def need_speeds(speeds):
    """Refuse speeds of which one is no share."""
    if not all([is_share(speed) for speed in speeds]):
        raise BadShare("a speed is a share")


def bounced(weight, other, one, two):
    """The speeds of two beads, of these weights and speeds, behind their meeting."""
    need_weights([weight, other])
    need_speeds([one, two])
    return knock_speeds(weight, other, one, two)


def stuck(weights, speeds):
    """The speed of beads, of these weights and speeds, that meet and stick."""
    need_weights(weights)
    if not isinstance(speeds, list) or len(speeds) != len(weights):
        raise BadWeight("there is no list of as many speeds as weights")
    need_speeds(speeds)
    return weighed_mean(weights, speeds)
