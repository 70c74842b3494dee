"""Point 6: two that meet and bounce, and those that meet and stick."""

import random
import unittest
from fractions import Fraction

from beadway.errors import BadShare, BadWeight
from beadway.knocks import bounced, stuck
from tests.helpers import assert_refused, some_share, told, worth

WEIGHTS = [1, 2, 3, 7, 30, 59, 60]
SPEEDS = [(0, 1), (1, 1), (-1, 1), (5, 3), (-7, 60), (1000000, 1), (-1000000, 59)]


def force(weight, other, one, two):
    """Weight times speed times speed of both, together."""
    return weight * one * one + other * two * two


class BouncedTest(unittest.TestCase):
    def check(self, weight, other, one, two):
        answer = bounced(weight, other, one, two)
        self.assertIs(type(answer), tuple)
        self.assertEqual(len(answer), 2)
        left, right = Fraction(*one), Fraction(*two)
        new_left, new_right = worth(answer[0]), worth(answer[1])
        self.assertEqual(weight * new_left + other * new_right, weight * left + other * right)
        self.assertEqual(force(weight, other, new_left, new_right), force(weight, other, left, right))
        self.assertEqual(new_right - new_left, left - right)
        self.assertEqual(bounced(weight, other, *answer), (one, two))

    def test_all_weights_and_speeds(self):
        for weight in WEIGHTS:
            for other in WEIGHTS:
                for one in SPEEDS:
                    for two in SPEEDS:
                        self.check(weight, other, one, two)

    def test_speeds_of_any_size(self):
        source = random.Random(6)
        for weight in WEIGHTS:
            for other in WEIGHTS:
                one = some_share(source, 10 ** 60, 10 ** 50)
                two = some_share(source, 10 ** 200, 10 ** 100)
                self.check(weight, other, one, two)

    def test_like_weights_exchange_their_speeds(self):
        for weight in range(1, 61):
            self.assertEqual(bounced(weight, weight, (3, 7), (-5, 2)), ((-5, 2), (3, 7)))

    def test_known_ones(self):
        self.assertEqual(bounced(1, 3, (1, 1), (0, 1)), ((-1, 2), (1, 2)))
        self.assertEqual(bounced(3, 1, (1, 1), (0, 1)), ((1, 2), (3, 2)))
        self.assertEqual(bounced(60, 1, (1, 1), (-1, 1)), ((57, 61), (179, 61)))
        self.assertEqual(bounced(2, 1, (1, 1), (1, 1)), ((1, 1), (1, 1)))

    def test_limits_of_weights(self):
        for good in (1, 60):
            bounced(good, 1, (1, 1), (0, 1))
            bounced(1, good, (1, 1), (0, 1))
        for bad in (0, 61, -1, 10 ** 20):
            assert_refused(self, BadWeight, bounced, bad, 1, (1, 1), (0, 1))
            assert_refused(self, BadWeight, bounced, 1, bad, (1, 1), (0, 1))


class StuckTest(unittest.TestCase):
    def test_by_an_own_reckoning(self):
        source = random.Random(7)
        for count in range(1, 16):
            for limit in (9, 1000000, 10 ** 80):
                weights = [source.randint(1, 60) for _ in range(count)]
                speeds = [some_share(source, limit, limit) for _ in range(count)]
                drive = sum(weight * Fraction(*speed) for weight, speed in zip(weights, speeds))
                self.assertEqual(worth(stuck(weights, speeds)), drive / sum(weights))

    def test_known_ones(self):
        self.assertEqual(stuck([1, 3], [(1, 1), (0, 1)]), (1, 4))
        self.assertEqual(stuck([2, 2], [(1, 3), (-1, 3)]), (0, 1))
        self.assertEqual(stuck([1, 2, 60], [(7, 1), (-2, 1), (1, 20)]), (2, 21))

    def test_one_keeps_its_speed(self):
        for weight in (1, 17, 60):
            for speed in SPEEDS + [told(Fraction(10 ** 50, 3))]:
                self.assertEqual(stuck([weight], [speed]), speed)

    def test_those_who_stick_may_be_stuck_in_turn(self):
        two = stuck([2, 3], [(5, 1), (-1, 7)])
        self.assertEqual(stuck([5, 4], [two, (3, 2)]), stuck([2, 3, 4], [(5, 1), (-1, 7), (3, 2)]))

    def test_lists_that_do_not_fit(self):
        for weights, speeds in (([], []), ([], [(1, 1)]), ([1], []), ([1], [(1, 1), (1, 1)]), ([1, 2], [(1, 1)]),
                                ((1, 2), [(1, 1), (1, 1)]), ([1, 2], ((1, 1), (1, 1))), ([1, 1], (1, 1)),
                                ([1], {0: (1, 1)}), ({0: 1}, [(1, 1)]), ([[1]], [(1, 1)]), (1, (1, 1))):
            assert_refused(self, BadWeight, stuck, weights, speeds)

    def test_weights_that_are_none(self):
        for bad in (0, 61, -1, True, None):
            for at in range(3):
                weights = [1, 60, 5]
                weights[at] = bad
                assert_refused(self, BadWeight, stuck, weights, [(1, 1), (2, 1), (3, 1)])

    def test_speeds_that_are_none(self):
        for bad in ((2, 4), (1, 0), (True, 1), [1, 1], 1, None):
            for at in range(3):
                speeds = [(1, 1), (2, 1), (3, 1)]
                speeds[at] = bad
                assert_refused(self, BadShare, stuck, [1, 60, 5], speeds)

    def test_weights_are_asked_first(self):
        assert_refused(self, BadWeight, stuck, [61], [(2, 4)])
        assert_refused(self, BadWeight, stuck, [1, 1], [(2, 4)])
        assert_refused(self, BadWeight, stuck, [True], [None])


if __name__ == "__main__":
    unittest.main()
