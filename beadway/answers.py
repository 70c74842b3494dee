"""Answers, each of which shows by its own fields whether it is right."""

from beadway.checks import is_bead_of
from beadway.clumps import holds, parts_at
from beadway.exact import is_share, is_whole
from beadway.faults import first_fault
from beadway.runs import runs_of, wait_between


class Answer:
    """Every answer is one of these."""


class Meet(Answer):
    """A bead and the next one would be at one place at this moment."""

    def __init__(self, moment):
        self.moment = moment

    def shows(self, row, bead):
        """Whether they would, the first one faster."""
        runs = runs_of(row)
        return is_share(self.moment) and self.moment == wait_between(runs[bead], runs[bead + 1])


class Never(Answer):
    """A bead and the next one never meet."""

    def shows(self, row, bead):
        """Whether the first one isn't faster."""
        runs = runs_of(row)
        return wait_between(runs[bead], runs[bead + 1]) is None


class One(Answer):
    """Two beads are one, by a stretch from the first to the last."""

    def __init__(self, first, last):
        self.first = first
        self.last = last

    def shows(self, row, moment, one, other):
        """Whether it is a stretch with both of them that no cut leaves with its left middle behind its right one."""
        if not is_bead_of(row, self.first) or not is_bead_of(row, self.last):
            return False
        return self.first <= one and other <= self.last and holds(row, self.first, self.last, moment)


class Parted(Answer):
    """Two beads aren't one, by a cut behind a bead."""

    def __init__(self, cut):
        self.cut = cut

    def shows(self, row, moment, one, other):
        """Whether it is a bead from the first one on, ahead of the other, behind which all middles are parted."""
        return is_whole(self.cut) and one <= self.cut < other and parts_at(row, self.cut, moment)


class Right(Answer):
    """A list of events is that of a story up to a moment."""

    def shows(self, row, kind, moment, events):
        """Whether they are just the story's events."""
        return first_fault(row, kind, moment, events) is None


class Wrong(Answer):
    """A list of events isn't that of a story up to a moment, from this count on."""

    def __init__(self, count):
        self.count = count

    def shows(self, row, kind, moment, events):
        """Whether the first event that isn't the story's one there, or that either lacks, has this count."""
        return is_whole(self.count) and self.count == first_fault(row, kind, moment, events)
