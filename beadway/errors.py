"""The refusals of the program, one class for each kind."""


class BeadError(ValueError):
    """Every refusal is one of these."""


class BadShare(BeadError):
    """What was handed in is no share, or none that is allowed there."""


class BadRow(BeadError):
    """What was handed in is no row."""


class BadBead(BeadError):
    """There is no such bead, or no such stretch of beads, in the row."""


class BadWeight(BeadError):
    """What was handed in is no weight, or not weights and as many speeds."""


class BadMoment(BeadError):
    """What was handed in is no moment."""


class BadKind(BeadError):
    """There is no such kind of story."""


class BadEvents(BeadError):
    """What was handed in is no list of events."""


class BadText(BeadError):
    """What was handed in is no text of a row."""


class Unlike(BeadError):
    """The beads are not all of one weight."""


class Together(BeadError):
    """Two beads that are not one are at one place."""


class Crowded(BeadError):
    """Three or more beads, not all of one weight, come to one place."""


class TooMany(BeadError):
    """There would be more exchanges of unlike weights than a story has."""


class TooFar(BeadError):
    """A number would leave the limits of a row."""
