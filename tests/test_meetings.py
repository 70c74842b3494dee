"""Points 7 and 8: a bead and the next one, and the first moment of a row at which any would meet."""

import random
import unittest
from fractions import Fraction

from beadway.answers import Answer, Meet, Never
from beadway.errors import BadBead, BadRow
from beadway.meetings import first_meet, pair_meets
from tests.helpers import assert_refused, line, some_rows, told, worth
from tests.own import small_rows

SPEEDS = [(-3, 1), (-1, 2), (0, 1), (1, 3), (2, 5), (1000000, 1), (-1000000, 1), (999999, 59)]


def way(bead, moment):
    return Fraction(*bead[1]) + Fraction(*bead[2]) * moment


def own_first_meet(row):
    """The first moment and its stretches, by looking at each pair of neighbours and then at all places."""
    moments = []
    for one, other in zip(row, row[1:]):
        closing = Fraction(*one[2]) - Fraction(*other[2])
        if closing > 0:
            moments.append((Fraction(*other[1]) - Fraction(*one[1])) / closing)
    if not moments:
        return None
    moment = min(moments)
    places = [way(bead, moment) for bead in row]
    stretches = [(places.index(place), len(places) - 1 - places[::-1].index(place)) for place in sorted(set(places))]
    return (told(moment), [(first, last) for first, last in stretches if last > first])


class PairTest(unittest.TestCase):
    def check(self, row, bead):
        answer = pair_meets(row, bead)
        one, other = row[bead], row[bead + 1]
        self.assertIsInstance(answer, Answer)
        if Fraction(*one[2]) > Fraction(*other[2]):
            self.assertIs(type(answer), Meet)
            self.assertGreater(worth(answer.moment), 0)
            self.assertEqual(way(one, worth(answer.moment)), way(other, worth(answer.moment)))
        else:
            self.assertIs(type(answer), Never)
        self.assertIs(answer.shows(row, bead), True)

    def test_all_pairs_of_speeds(self):
        for one in SPEEDS:
            for other in SPEEDS:
                for places in (((0, 1), (1, 1)), ((-7, 3), (-2, 1)), ((999997, 60), (1000000, 59))):
                    self.check([(1, places[0], one), (60, places[1], other)], 0)

    def test_every_bead_of_many_rows(self):
        for row in some_rows(60) + small_rows(7, 100):
            for bead in range(len(row) - 1):
                self.check(row, bead)

    def test_known_ones(self):
        row = [(3, (0, 1), (2, 1)), (1, (4, 1), (-1, 2)), (2, (5, 1), (-1, 2)), (1, (6, 1), (7, 1))]
        self.assertEqual(pair_meets(row, 0).moment, (8, 5))
        self.assertIs(type(pair_meets(row, 1)), Never)
        self.assertIs(type(pair_meets(row, 2)), Never)

    def test_as_if_both_went_straight_whoever_is_around(self):
        row = [(1, (0, 1), (1, 1)), (1, (10, 1), (0, 1)), (1, (11, 1), (-5, 1)), (1, (30, 1), (-6, 1))]
        self.assertEqual([pair_meets(row, bead).moment for bead in range(3)], [(10, 1), (1, 5), (19, 1)])

    def test_no_bead_and_the_last_one(self):
        for count in range(1, 11):
            row = line(count)
            for bead in (count - 1, count, count + 1, -1, -2, 10 ** 30, True, False, None, "0", (0,)):
                assert_refused(self, BadBead, pair_meets, row, bead)

    def test_no_row_ahead_of_no_bead(self):
        for row in ([], None, line(11), tuple(line(3))):
            assert_refused(self, BadRow, pair_meets, row, 99)
            assert_refused(self, BadRow, first_meet, row)


class FirstMeetTest(unittest.TestCase):
    def check(self, row):
        answer = first_meet(row)
        self.assertEqual(answer, own_first_meet(row))
        if answer is not None:
            self.assertIs(type(answer), tuple)
            self.assertIs(type(answer[1]), list)
            self.assertTrue(answer[1])
            self.assertEqual({type(stretch) for stretch in answer[1]}, {tuple})
        return answer

    def test_many_rows(self):
        for row in some_rows(100):
            self.check(row)
        answers = [self.check(row) for row in small_rows(8, 600)]
        stretches = [answer[1] for answer in answers if answer]
        self.assertTrue(any(len(found) > 1 for found in stretches))
        self.assertTrue(any(last - first > 1 for found in stretches for first, last in found))
        self.assertIn(None, answers)

    def test_none_ever_meet(self):
        self.assertIsNone(first_meet([(1, (0, 1), (5, 1))]))
        self.assertIsNone(first_meet([(1, (0, 1), (1, 1)), (2, (1, 1), (1, 1))]))
        self.assertIsNone(first_meet([(1 + at, (at, 1), (at, 1)) for at in range(10)]))

    def test_known_ones(self):
        row = [(3, (0, 1), (2, 1)), (1, (4, 1), (-1, 2))]
        self.assertEqual(first_meet(row), ((8, 5), [(0, 1)]))

    def test_two_spots_at_one_moment(self):
        row = [(1, (0, 1), (1, 1)), (9, (2, 1), (0, 1)), (5, (3, 1), (0, 1)), (1, (7, 1), (-2, 1))]
        self.assertEqual(first_meet(row), ((2, 1), [(0, 1), (2, 3)]))

    def test_five_spots_at_one_moment(self):
        row = [(1 + at, (at, 1), (1 if at % 2 == 0 else -1, 3)) for at in range(10)]
        self.assertEqual(first_meet(row), ((3, 2), [(0, 1), (2, 3), (4, 5), (6, 7), (8, 9)]))

    def test_three_and_more_in_one_spot(self):
        row = [(1, (-2, 1), (1, 1)), (2, (0, 1), (0, 1)), (3, (4, 1), (-2, 1)), (4, (5, 1), (0, 1))]
        self.assertEqual(first_meet(row), ((2, 1), [(0, 2)]))
        fan = [(1 + at, (at, 1), (-at, 1)) for at in range(10)]
        self.assertEqual(first_meet(fan), ((1, 1), [(0, 9)]))

    def test_three_in_one_spot_and_two_in_another(self):
        row = [(1, (-2, 1), (1, 1)), (2, (0, 1), (0, 1)), (3, (4, 1), (-2, 1)), (4, (5, 1), (0, 1)),
               (4, (7, 1), (-1, 1))]
        self.assertEqual(first_meet(row), ((2, 1), [(0, 2), (3, 4)]))

    def test_a_later_pair_is_not_told(self):
        row = [(1, (0, 1), (1, 1)), (1, (1, 1), (0, 1)), (1, (5, 1), (1, 1)), (1, (9, 1), (0, 1))]
        self.assertEqual(first_meet(row), ((1, 1), [(0, 1)]))

    def test_no_two_at_one_place_without_being_neighbours(self):
        source = random.Random(88)
        for size in range(2, 11):
            places = sorted(source.sample(range(-100, 100), size))
            self.check([(1, (place, 1), (-place, 1)) for place in places])


class NewTest(unittest.TestCase):
    def test_what_is_told_is_new(self):
        row = [(1 + at, (at, 1), (1 if at % 2 == 0 else -1, 3)) for at in range(10)]
        first = first_meet(row)
        first[1].clear()
        self.assertEqual(len(first_meet(row)[1]), 5)
        answer = pair_meets(row, 0)
        answer.moment = (5, 1)
        self.assertEqual(pair_meets(row, 0).moment, (3, 2))

    def test_a_row_changed_behind_a_call(self):
        row = [(1, (0, 1), (1, 1)), (1, (2, 1), (0, 1))]
        answer, first = pair_meets(row, 0), first_meet(row)
        row[0] = (1, (1, 1), (-1, 1))
        self.assertEqual(answer.moment, (2, 1))
        self.assertEqual(first, ((2, 1), [(0, 1)]))
        self.assertIs(type(pair_meets(row, 0)), Never)
        self.assertIsNone(first_meet(row))


if __name__ == "__main__":
    unittest.main()
