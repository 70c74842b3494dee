"""What several tests need: values that are wrong at a door, and an own reckoning."""

import math
import random
from fractions import Fraction


class Thorny:
    """An object that bears no question: a door may only ask of which kind it is."""

    def refuse(self, *rest):
        raise RuntimeError("this object must not be asked")

    __eq__ = __ne__ = __lt__ = __le__ = __gt__ = __ge__ = refuse
    __len__ = __bool__ = __iter__ = __getitem__ = __contains__ = refuse
    __hash__ = __int__ = __index__ = __repr__ = __str__ = refuse


def anything():
    """Values that are no whole number, no share, no list and no row."""
    return [None, True, False, "", "1", "1/2", b"", b"12", {}, {0: 1}, {"top": 1}, set(), {1, 2}, frozenset([1]),
            len, lambda: 1, int, object(), Thorny(), Fraction(1, 2), range(2), iter([1, 2])]


def no_wholes():
    return anything() + [(), (1,), (1, 2), [], [1], [1, 2], ((1, 1),)]


def no_shares():
    pairs = [(True, 1), (False, 1), (1, True), (True, True), (None, 1), (1, None), ("1", 1), (1, "2"), (b"1", 1),
             ([1], 1), (1, [2]), ((1, 1), 1), (1, (1, 1)), (Thorny(), 1), (1, Thorny()), (Fraction(1), 1),
             (1, 0), (0, 0), (1, -1), (-1, -2), (0, -1), (0, 2), (0, 60), (2, 2), (2, 4), (-2, 4), (6, 9), (-15, 60),
             (10 ** 60, 10 ** 59), (3 * 10 ** 40, 3)]
    others = [0, 1, -1, 10 ** 30, (), (1,), (1, 2, 3), (1, 1, 1), [1, 2], [0, 1], [], [(1, 2)], ((1, 2),)]
    return anything() + pairs + others


def no_moments():
    return no_shares() + [(-1, 1), (-1, 2), (-10 ** 40, 7)]


def no_weights():
    return no_wholes() + [0, -1, 61, 10 ** 30, -60]


def no_row_shares():
    return no_shares() + [(1000001, 1), (-1000001, 1), (1000001, 60), (1, 61), (-1, 61), (1, 10 ** 20), (10 ** 20, 1)]


def no_beads():
    """Values that are no bead, whatever row they stand in."""
    bead = (1, (0, 1), (0, 1))
    whole = [(weight, (0, 1), (0, 1)) for weight in no_weights()]
    whole += [(1, place, (0, 1)) for place in no_row_shares()]
    whole += [(1, (0, 1), speed) for speed in no_row_shares()]
    return anything() + whole + [0, 1, (), bead[:1], bead[:2], bead + ((0, 1),), list(bead), [bead], (bead,)]


def line(count):
    """A row of so many beads at the places 0, 1, 2 and so on."""
    return [(1 + at, (at, 1), (-at, 7) if at % 7 else (at, 1)) for at in range(count)]


def no_rows():
    rows = [[bead] for bead in no_beads()]
    rows += [[(1, (-5, 1), (0, 1)), bead] for bead in no_beads()]
    for at in range(9):
        alike = line(10)
        alike[at + 1] = (9,) + alike[at][1:2] + ((1, 3),)
        exchanged = line(10)
        exchanged[at], exchanged[at + 1] = exchanged[at + 1], exchanged[at]
        rows += [alike, exchanged]
    far = line(10)
    far[0], far[9] = far[9], far[0]
    rows += [far, list(reversed(line(10))), [], line(11), line(12), tuple(line(3)), tuple(line(1)), [line(2)]]
    return anything() + rows + [0, 1, (1, 2), (1, (0, 1), (0, 1)), {0: (1, (0, 1), (0, 1))}]


def no_bead_of(row):
    return no_wholes() + [-1, -len(row), len(row), len(row) + 1, 10 ** 30, -10 ** 30]


def worth(share):
    """What a share is worth, after a look whether it is told as a share."""
    if type(share) is not tuple or len(share) != 2 or [type(part) for part in share] != [int, int]:
        raise AssertionError("no pair of whole numbers")
    if share[1] < 1 or math.gcd(*share) != 1:
        raise AssertionError("not in lowest terms")
    return Fraction(*share)


def told(value):
    """The share worth a fraction."""
    value = Fraction(value)
    return (value.numerator, value.denominator)


def some_share(source, top=1000000, bottom=60):
    return told(Fraction(source.randint(-top, top), source.randint(1, bottom)))


def some_rows(count):
    """So many rows of 1 to 10 beads, the same ones each time."""
    source = random.Random(20)
    rows = []
    for size in range(count):
        places = sorted({some_share(source, 40) for _ in range(1 + size % 10)}, key=lambda pair: Fraction(*pair))
        rows.append([(source.randint(1, 60), place, some_share(source)) for place in places])
    return rows


def assert_refused(case, kind, call, *given):
    """Whether just this class is raised."""
    try:
        call(*given)
    except Exception as error:
        case.assertIs(type(error), kind)
    else:
        case.fail(f"{call.__name__} refuses nothing where {kind.__name__} is told")


def no_events():
    """What is no list of at most 60 pairs of a moment and a list of pairs of whole numbers."""
    event = ((1, 1), [(0, 1)])
    events = [(moment, [(0, 1)]) for moment in no_moments()]
    events += [((1, 1), bad) for bad in anything() + [0, (), (0, 1), ((0, 1),), ((0, 1), (2, 3))]]
    stretches = anything() + [0, (), (0,), (0, 1, 2), [0, 1], [], [(0, 1)], ((0, 1),)]
    stretches += [(bad, 1) for bad in no_wholes()] + [(0, bad) for bad in no_wholes()]
    events += [((1, 1), [bad]) for bad in stretches]
    events += anything() + [0, (), event[:1], event + ((0, 1),), list(event), (event,), (event[1], event[0])]
    lists = [[bad] for bad in events] + [[event, bad] for bad in events] + [[bad, event] for bad in events[::4]]
    return anything() + lists + [(), (event,), event, 0, 1, {0: event}, [event] * 61, [event] * 62, [event] * 1000]


def no_texts():
    """What is no text at all, or none of a row, whatever row it stands for."""
    words = ["", " ", ",", ", ", "/", "-", "1", "1/1", "1 1/1", "1 1/1 ", "1 1/1 1", "1 1 1/1", "1/1 1/1 1/1", "x",
             "1 0/1 0/1,", "1 0/1 0/1, ", ", 1 0/1 0/1", " 1 0/1 0/1", "1 0/1 0/1 ", "1 0/1 0/1\n", "\n1 0/1 0/1"]
    others = [bad for bad in no_wholes() if not isinstance(bad, str)]
    return others + words + [0, 1, ["1 0/1 0/1"], ("1 0/1 0/1",), b"1 0/1 0/1", [(1, (0, 1), (0, 1))]]
