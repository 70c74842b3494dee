"""Stories: a row's beads stick or bounce from moment 0 on."""

from beadway.checks import is_row_share, need_bead, need_kind, need_moment, need_row
from beadway.course import Knot, coming_moment, meeting_knot
from beadway.errors import BadShare, Together
from beadway.exact import NOUGHT, compared, lessened, scaled
from beadway.runs import by_places, met_stretches, moved, runs_of


class Story:
    """The story of a row's beads that stick or bounce, at one moment."""

    def __init__(self, row, kind):
        need_row(row)
        need_kind(kind)
        self.row = list(row)
        self.kind = kind
        # All knots up to its moment are always there; those behind it stay, so that what was there comes again.
        self.knots = [Knot(NOUGHT, runs_of(row), [], 0)]
        self.moment = NOUGHT

    def passed(self):
        """The knots up to its moment, that moment's, too."""
        return [knot for knot in self.knots if compared(knot.moment, self.moment) <= 0]

    def runs_now(self):
        """The runs at its moment, behind what is at that moment."""
        knot = self.passed()[-1]
        return moved(knot.runs, lessened(self.moment, knot.moment))

    def now(self):
        """Its moment and the state then."""
        return (self.moment, self.runs_now())

    def events(self):
        """All events up to its moment, that moment's, too."""
        return [(knot.moment, list(knot.stretches)) for knot in self.passed() if knot.stretches]

    def next_moment(self):
        """The moment of the next meeting; None if there is none."""
        for knot in self.knots:
            if knot.stretches and compared(knot.moment, self.moment) > 0:
                return knot.moment
        return coming_moment(self.knots[-1])

    def next(self):
        """Go on to the next meeting and tell its event; if there is none, stay and tell None."""
        moment = self.next_moment()
        if moment is None:
            return None
        self.to(moment)
        return self.events()[-1]

    def back(self):
        """Go back to the last meeting ahead of its moment, or to moment 0, and tell the moment."""
        earlier = [moment for moment, stretches in self.events() if compared(moment, self.moment) < 0]
        self.moment = earlier[-1] if earlier else NOUGHT
        return self.moment

    def to(self, moment):
        """Go to a moment."""
        need_moment(moment)
        coming = coming_moment(self.knots[-1])
        while coming is not None and compared(coming, moment) <= 0:
            self.knots.append(meeting_knot(self.row, self.kind, self.knots[-1], coming))
            coming = coming_moment(self.knots[-1])
        # A refusal comes ahead of this, so that it leaves the story where it is.
        self.moment = moment

    def need_apart(self):
        """Refuse a change while two that aren't one are at one place."""
        if met_stretches(by_places(self.runs_now())):
            raise Together("two beads that aren't one are at one place")

    def change(self, runs):
        """Go on from its moment with these runs; what is behind it is dropped."""
        self.knots = self.passed() + [Knot(self.moment, runs, [], 0)]

    def push(self, bead, speed):
        """Give a bead, and all that are one with it, a speed from now on."""
        need_bead(self.row, bead)
        if not is_row_share(speed):
            raise BadShare("a speed is a share that a row may have")
        self.need_apart()
        self.change([(first, last, place, speed if first <= bead <= last else old)
                     for first, last, place, old in self.runs_now()])

    def turn(self):
        """Turn all speeds the other way from now on."""
        self.need_apart()
        self.change([(first, last, place, scaled(-1, speed)) for first, last, place, speed in self.runs_now()])
