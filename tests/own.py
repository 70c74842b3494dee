"""An own reckoning of stories: each run's way is a straight line, told by its place at moment 0 and its speed.

Those who stick have, as their line, the middle of the lines, by weight; a bounce mirrors both lines at that middle.
So no place is carried on from meeting to meeting, as the program does it.
"""

import functools
import random
from fractions import Fraction

from beadway.errors import Crowded, Together, TooMany
from tests.helpers import told


def lines_of(row):
    return [(at, at, Fraction(*place), Fraction(*speed)) for at, (weight, place, speed) in enumerate(row)]


def crossing(lines):
    """The first moment at which two neighbours, the first one faster, cross; None if none do."""
    moments = [(other[2] - one[2]) / (one[3] - other[3]) for one, other in zip(lines, lines[1:]) if one[3] > other[3]]
    return min(moments, default=None)


def place_at(line, moment):
    return line[2] + line[3] * moment


def spots(lines, moment):
    """The lines in lists, each of those at one place."""
    places = sorted({place_at(line, moment) for line in lines})
    return [[line for line in lines if place_at(line, moment) == place] for place in places]


def weight_of_line(row, line):
    return sum(bead[0] for bead in row[line[0]:line[1] + 1])


def middle_line(row, spot):
    weights = [weight_of_line(row, line) for line in spot]
    start = sum(weight * line[2] for weight, line in zip(weights, spot)) / sum(weights)
    speed = sum(weight * line[3] for weight, line in zip(weights, spot)) / sum(weights)
    return (spot[0][0], spot[-1][1], start, speed)


def mirrored_lines(row, spot):
    middle = middle_line(row, spot)
    if len(spot) == 2:
        return [(first, last, 2 * middle[2] - start, 2 * middle[3] - speed) for first, last, start, speed in spot]
    return [line[:2] + other[2:] for line, other in zip(spot, reversed(spot))]


def is_mixed(row, spot):
    return len({row[line[0]][0] for line in spot}) > 1


def changed(lines, moment, change):
    """The lines behind a change: a bead and a speed, or None for all speeds turned."""
    new = []
    for line in lines:
        first, last, start, speed = line
        place = place_at(line, moment)
        if change is None:
            speed = -speed
        elif first <= change[0] <= last:
            speed = Fraction(*change[1])
        new.append((first, last, place - speed * moment, speed))
    return new


class Course:
    """The whole of a story under changes, up to its end or to where it is refused."""

    def __init__(self, row, kind, changes=()):
        self.row, self.kind = row, kind
        self.marks = [(Fraction(0), lines_of(row))]
        self.events = []
        self.refusal = None
        self.used = 0
        changes = list(changes)
        while self.refusal is None:
            moment = crossing(self.marks[-1][1])
            if changes and (moment is None or changes[0][0] < moment):
                at, change = changes.pop(0)
                self.marks.append((at, changed(self.marks[-1][1], at, change)))
                self.used = 0
            elif moment is None:
                break
            else:
                self.meet(moment)

    def meet(self, moment):
        found = spots(self.marks[-1][1], moment)
        unlike = [spot for spot in found if is_mixed(self.row, spot)]
        if self.kind == "stick":
            lines = [middle_line(self.row, spot) for spot in found]
        elif any(len(spot) > 2 for spot in unlike):
            self.refusal = (moment, Crowded)
            return
        elif self.used + len(unlike) > 12:
            self.refusal = (moment, TooMany)
            return
        else:
            self.used += len(unlike)
            lines = [line for spot in found for line in mirrored_lines(self.row, spot)]
        self.marks.append((moment, lines))
        self.events.append((told(moment), [(spot[0][0], spot[-1][1]) for spot in found if len(spot) > 1]))

    def state(self, moment):
        lines = [lines for at, lines in self.marks if at <= moment][-1]
        return [(line[0], line[1], told(place_at(line, moment)), told(line[3])) for line in lines]

    def events_to(self, moment):
        return [event for event in self.events if Fraction(*event[0]) <= moment]

    def refuses(self, moment):
        """The class by which this moment is refused, or None."""
        return self.refusal[1] if self.refusal and self.refusal[0] <= moment else None


class Model:
    """A Story by an own reckoning, all of it anew behind each change; a refusal is told as its class."""

    def __init__(self, row, kind):
        self.row, self.kind = row, kind
        self.moment = Fraction(0)
        self.changes = []
        self.whole = Course(row, kind)

    def course(self):
        return self.whole

    def now(self):
        return (told(self.moment), self.course().state(self.moment))

    def events(self):
        return self.course().events_to(self.moment)

    def to(self, moment):
        refusal = self.course().refuses(Fraction(*moment))
        if refusal is None:
            self.moment = Fraction(*moment)
        return refusal

    def next(self):
        course = self.course()
        later = [event for event in course.events if Fraction(*event[0]) > self.moment]
        if later:
            self.moment = Fraction(*later[0][0])
            return later[0]
        return course.refusal[1] if course.refusal else None

    def back(self):
        earlier = [moment for moment, stretches in self.events() if Fraction(*moment) < self.moment]
        self.moment = Fraction(*earlier[-1]) if earlier else Fraction(0)
        return told(self.moment)

    def change(self, change):
        places = [place for first, last, place, speed in self.now()[1]]
        if len(set(places)) < len(places):
            return Together
        self.changes = [old for old in self.changes if old[0] <= self.moment] + [(self.moment, change)]
        self.whole = Course(self.row, self.kind, self.changes)
        return None

    def push(self, bead, speed):
        return self.change((bead, speed))

    def turn(self):
        return self.change(None)


def small_row(source, size, weights, speed=4, gap=3):
    """A row of small numbers, so that much happens at one moment."""
    row, place = [], source.randint(-5, 5)
    for at in range(size):
        bottom = source.choice((1, 1, 1, 2, 3))
        row.append((source.choice(weights), (place, 1), told(Fraction(source.randint(-speed, speed), bottom))))
        place += source.randint(1, gap)
    return row


def small_rows(seed, count):
    """So many rows of small numbers, of one weight, of two and of many, the same ones each time."""
    source = random.Random(seed)
    kinds = [(7,), (1, 2), (1, 1, 1, 3), (1, 60), tuple(range(1, 61))]
    return [small_row(source, 1 + at % 10, kinds[at // 10 % len(kinds)]) for at in range(count)]


def light_between(start=0, place=9):
    """Three beads, a light one between two heavy ones that come together: seventeen exchanges of unlike weights."""
    return [(60, (start, 1), (1, 1)), (1, (start + place, 1), (0, 1)), (60, (start + 20, 1), (-1, 1))]


@functools.lru_cache(maxsize=4096)
def middle_of_beads(beads, moment):
    weighed = sum(bead[0] * (Fraction(*bead[1]) + Fraction(*bead[2]) * moment) for bead in beads)
    return weighed / sum(bead[0] for bead in beads)


def own_middle(row, first, last, moment):
    return middle_of_beads(tuple(row[first:last + 1]), moment)


def own_one(row, moment, one, other, first, last):
    if not 0 <= first <= one < other <= last < len(row):
        return False
    return all(own_middle(row, first, cut, moment) >= own_middle(row, cut + 1, last, moment)
               for cut in range(first, last))


def own_parted(row, moment, one, other, cut):
    if not one <= cut < other:
        return False
    lefts = [own_middle(row, first, cut, moment) for first in range(cut + 1)]
    rights = [own_middle(row, cut + 1, last, moment) for last in range(cut + 1, len(row))]
    return max(lefts) < min(rights)


def spoiled(right):
    """Lists of events that aren't right, each with the count of its first fault."""
    lists = [(right + [((10 ** 300 + 1, 1), [(0, 1)])], len(right))]
    for at, (moment, stretches) in enumerate(right):
        later = told(Fraction(*moment) + Fraction(1, 7))
        lists.append((right[:at], at))
        lists.append((right[:at] + right[at + 1:], at))
        lists.append((right[:at] + [(later, stretches)] + right[at + 1:], at))
        lists.append((right[:at] + [(moment, stretches + [(0, 1)])] + right[at + 1:], at))
        lists.append((right[:at] + [(moment, [])] + right[at + 1:], at))
        lists.append((right[:at] + [(moment, [(stretches[0][1], stretches[0][0])])] + right[at + 1:], at))
        lists.append((right[:at + 1] + right[at:], at + 1))
        if at + 1 < len(right):
            lists.append((right[:at] + [right[at + 1], right[at]] + right[at + 2:], at))
    if len(right) > 1:
        lists.append((right[::-1], 0))
    return lists


def near_moments(moments):
    """Moment 0, near and far ones, and each of these, just ahead of it and just behind it."""
    tiny = Fraction(1, 10 ** 40)
    found = [Fraction(0), tiny, Fraction(1, 3), Fraction(5, 2), Fraction(40), Fraction(10 ** 60)]
    for moment in moments:
        found += [moment - tiny, moment, moment + tiny]
    return found


def exchanges(events):
    """How many exchanges these events make: each stretch as many as it has pairs."""
    sizes = [last - first + 1 for moment, stretches in events for first, last in stretches]
    return sum(size * (size - 1) // 2 for size in sizes)


def alike_rows(seed, count):
    """Rows of small numbers, each of one weight."""
    return [[(1 + at % 60,) + bead[1:] for bead in row] for at, row in enumerate(small_rows(seed, count))]
