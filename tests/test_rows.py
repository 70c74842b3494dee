"""Points 4 and 5: rows, and what is told of their stretches."""

import unittest
from fractions import Fraction

from beadway.errors import BadBead, BadMoment, BadRow
from beadway.rows import drive_of, middle, straight, weight_of
from tests.helpers import assert_refused, line, some_rows, told, worth

MOMENTS = [(0, 1), (1, 1), (1, 3), (7, 60), (10 ** 40, 1), (1, 10 ** 40), (10 ** 50 + 1, 10 ** 30)]


def at_rest(place, speed=(0, 1), weight=1):
    return (weight, place, speed)


def stretches(row):
    return [(first, last) for first in range(len(row)) for last in range(first, len(row))]


def own_place(bead, moment):
    weight, place, speed = bead
    return Fraction(*place) + Fraction(*speed) * Fraction(*moment)


class Doors(unittest.TestCase):
    def calls(self, row, first=0, last=0, moment=(0, 1)):
        return [(weight_of, (row, first, last)), (drive_of, (row, first, last)), (middle, (row, first, last, moment))]

    def taken(self, row):
        for call, given in self.calls(row) + [(straight, (row, 0, (0, 1)))]:
            call(*given)

    def refused(self, row):
        for call, given in self.calls(row) + [(straight, (row, 0, (0, 1)))]:
            assert_refused(self, BadRow, call, *given)


class RowTest(Doors):
    def test_weights(self):
        for weight in (1, 2, 59, 60):
            self.taken([at_rest((0, 1), weight=weight)])
            self.assertEqual(weight_of([at_rest((0, 1), weight=weight)], 0, 0), weight)
        for weight in (0, 61, -1, 1000):
            self.refused([at_rest((0, 1), weight=weight)])

    def test_tops(self):
        for top in (-1000000, 1000000, -999999, 0):
            self.taken([at_rest((top, 1))])
            self.taken([at_rest((0, 1), (top, 1))])
        for top in (-1000001, 1000001):
            for bottom in (1, 60):
                self.refused([at_rest((top, bottom))])
                self.refused([at_rest((0, 1), (top, bottom))])

    def test_bottoms(self):
        for bottom in (1, 2, 59, 60):
            for top in (1, -1, 999961, -999961):
                self.taken([at_rest((top, bottom))])
                self.taken([at_rest((0, 1), (top, bottom))])
        for bottom in (61, 67, 0, -1, -60):
            self.refused([at_rest((1, bottom))])
            self.refused([at_rest((0, 1), (1, bottom))])

    def test_lowest_terms(self):
        for pair in ((0, 2), (2, 2), (30, 60), (-30, 60)):
            self.refused([at_rest(pair)])
            self.refused([at_rest((0, 1), pair)])

    def test_counts_of_beads(self):
        for count in range(1, 11):
            self.taken(line(count))
        for count in (0, 11, 12, 30):
            self.refused(line(count))

    def test_places_rise(self):
        self.taken([at_rest((-1, 2)), at_rest((-1, 3)), at_rest((-1, 4)), at_rest((1, 4)), at_rest((1, 3))])
        self.taken([at_rest((999997, 60)), at_rest((1000000, 59))])
        self.refused([at_rest((1, 3)), at_rest((1, 4))])
        self.refused([at_rest((-1, 4)), at_rest((-1, 3))])
        for at in range(9):
            alike = line(10)
            alike[at] = at_rest((at + 1, 1), (5, 1), 3)
            self.refused(alike)
            exchanged = line(10)
            exchanged[at], exchanged[at + 1] = exchanged[at + 1], exchanged[at]
            self.refused(exchanged)

    def test_any_bead_may_be_the_wrong_one(self):
        for at in range(10):
            for bead in (at_rest((at, 1), weight=61), at_rest((at, 1), (1, 61)), at_rest((at, 1), (True, 1)), None):
                row = line(10)
                row[at] = bead
                self.refused(row)

    def test_alike_speeds_and_weights_are_a_row(self):
        self.taken([at_rest((at, 1), (3, 1), 7) for at in range(10)])


class StretchTest(Doors):
    def test_all_stretches_by_an_own_reckoning(self):
        for row in some_rows(40):
            for first, last in stretches(row):
                beads = row[first:last + 1]
                weight = sum(bead[0] for bead in beads)
                self.assertEqual(weight_of(row, first, last), weight)
                self.assertIs(type(weight_of(row, first, last)), int)
                drive = sum(bead[0] * Fraction(*bead[2]) for bead in beads)
                self.assertEqual(worth(drive_of(row, first, last)), drive)

    def test_all_middles_by_an_own_reckoning(self):
        for row in some_rows(20):
            for moment in MOMENTS:
                for first, last in stretches(row):
                    beads = row[first:last + 1]
                    weighed = sum(bead[0] * own_place(bead, moment) for bead in beads)
                    self.assertEqual(worth(middle(row, first, last, moment)), weighed / sum(bead[0] for bead in beads))

    def test_straight_places_by_an_own_reckoning(self):
        for row in some_rows(40):
            for moment in MOMENTS:
                for at, bead in enumerate(row):
                    self.assertEqual(worth(straight(row, at, moment)), own_place(bead, moment))

    def test_one_bead_is_its_own_stretch(self):
        row = [(60, (1, 2), (-3, 4)), (1, (5, 1), (1, 60))]
        for at, (weight, place, speed) in enumerate(row):
            self.assertEqual(weight_of(row, at, at), weight)
            self.assertEqual(drive_of(row, at, at), told(weight * Fraction(*speed)))
            self.assertEqual(middle(row, at, at, (0, 1)), place)
            self.assertEqual(middle(row, at, at, (7, 3)), straight(row, at, (7, 3)))

    def test_known_ones(self):
        row = [(3, (0, 1), (2, 1)), (1, (4, 1), (-1, 2)), (60, (9, 2), (0, 1))]
        self.assertEqual(weight_of(row, 0, 1), 4)
        self.assertEqual(weight_of(row, 0, 2), 64)
        self.assertEqual(weight_of(row, 1, 2), 61)
        self.assertEqual(drive_of(row, 0, 1), (11, 2))
        self.assertEqual(drive_of(row, 2, 2), (0, 1))
        self.assertEqual(straight(row, 0, (1, 2)), (1, 1))
        self.assertEqual(straight(row, 1, (16, 1)), (-4, 1))
        self.assertEqual(middle(row, 0, 1, (0, 1)), (1, 1))
        self.assertEqual(middle(row, 0, 1, (2, 1)), (15, 4))

    def test_straight_places_pass_through_each_other(self):
        row = [(1, (0, 1), (1, 1)), (1, (1, 1), (-1, 1))]
        self.assertEqual(straight(row, 0, (5, 1)), (5, 1))
        self.assertEqual(straight(row, 1, (5, 1)), (-4, 1))

    def test_moments_of_any_size(self):
        row = [(2, (-1, 3), (1, 7)), (5, (0, 1), (-1, 7))]
        great = 7 * 10 ** 500
        self.assertEqual(straight(row, 0, (great, 1)), told(Fraction(-1, 3) + 10 ** 500))
        self.assertEqual(middle(row, 0, 1, (great, 1)), told((Fraction(-2, 3) - 3 * 10 ** 500) / 7))

    def test_no_stretch(self):
        row = line(4)
        for first, last in ((1, 0), (3, 0), (3, 2), (-1, 0), (-2, -1), (0, -1), (0, 4), (4, 4), (3, 4), (0, 10 ** 30)):
            for call, given in self.calls(row, first, last):
                assert_refused(self, BadBead, call, *given)

    def test_the_last_bead_of_the_longest_row(self):
        row = line(10)
        self.assertEqual(weight_of(row, 0, 9), 55)
        self.assertEqual(weight_of(row, 9, 9), 10)
        self.assertEqual(straight(row, 9, (0, 1)), (9, 1))
        assert_refused(self, BadBead, weight_of, row, 9, 10)
        assert_refused(self, BadBead, straight, row, 10, (0, 1))

    def test_no_bead(self):
        for count in (1, 4, 10):
            for bead in (-1, -count, count, count + 1):
                assert_refused(self, BadBead, straight, line(count), bead, (0, 1))

    def test_moments_below_nought(self):
        row = line(3)
        for moment in ((-1, 1), (-1, 60), (-1, 10 ** 50), (-10 ** 50, 1)):
            assert_refused(self, BadMoment, straight, row, 0, moment)
            assert_refused(self, BadMoment, middle, row, 0, 2, moment)


if __name__ == "__main__":
    unittest.main()
