"""Points 2 and 3: shares and the reckoning with them."""

import random
import unittest
from fractions import Fraction

from beadway.errors import BadShare
from beadway.shares import minus, order, over, plus, share, times
from tests.helpers import assert_refused, told, worth

GREAT = 10 ** 400 + 7
SMALL = [told(Fraction(top, bottom)) for top in range(-7, 8) for bottom in range(1, 7)]


def great_shares():
    source = random.Random(3)
    sizes = [1, 10 ** 6, 10 ** 30, 10 ** 90, 10 ** 300]
    return [told(Fraction(source.randint(-size, size), source.randint(1, other))) for size in sizes for other in sizes]


class ShareTest(unittest.TestCase):
    def test_every_top_and_bottom(self):
        for top in range(-30, 31):
            for bottom in list(range(-30, 0)) + list(range(1, 31)):
                self.assertEqual(worth(share(top, bottom)), Fraction(top, bottom))

    def test_known_ones(self):
        self.assertEqual(share(6, 4), (3, 2))
        self.assertEqual(share(-6, 4), (-3, 2))
        self.assertEqual(share(6, -4), (-3, 2))
        self.assertEqual(share(-6, -4), (3, 2))
        self.assertEqual(share(7, 7), (1, 1))
        self.assertEqual(share(5, 1), (5, 1))

    def test_nought(self):
        for bottom in (1, -1, 2, -60, GREAT, -GREAT):
            self.assertEqual(share(0, bottom), (0, 1))

    def test_very_great_ones(self):
        self.assertEqual(share(GREAT * 6, -GREAT * 4), (-3, 2))
        self.assertEqual(share(GREAT, 1), (GREAT, 1))
        self.assertEqual(share(-1, -GREAT), (1, GREAT))
        self.assertEqual(share(2 ** 5000 * 3, 2 ** 4999 * 5), (6, 5))

    def test_nought_as_a_bottom(self):
        for top in (0, 1, -1, GREAT):
            assert_refused(self, BadShare, share, top, 0)

    def test_beyond_what_python_writes_out(self):
        assert_refused(self, BadShare, share, 10 ** 6000, 0)
        assert_refused(self, BadShare, plus, (10 ** 6000, 10 ** 5999), (1, 1))
        self.assertEqual(share(10 ** 6000, 10 ** 5999), (10, 1))


class ReckoningTest(unittest.TestCase):
    def check(self, one, other):
        left, right = Fraction(*one), Fraction(*other)
        self.assertEqual(worth(plus(one, other)), left + right)
        self.assertEqual(worth(minus(one, other)), left - right)
        self.assertEqual(worth(times(one, other)), left * right)
        self.assertEqual(order(one, other), (left > right) - (left < right))
        self.assertIs(type(order(one, other)), int)
        if right:
            self.assertEqual(worth(over(one, other)), left / right)

    def test_small_ones(self):
        for one in SMALL:
            for other in SMALL:
                self.check(one, other)

    def test_great_ones(self):
        for one in great_shares():
            for other in great_shares():
                self.check(one, other)

    def test_known_ones(self):
        self.assertEqual(plus((1, 2), (1, 3)), (5, 6))
        self.assertEqual(plus((1, 6), (-1, 6)), (0, 1))
        self.assertEqual(minus((1, 2), (1, 3)), (1, 6))
        self.assertEqual(minus((1, 3), (1, 2)), (-1, 6))
        self.assertEqual(times((2, 3), (-3, 4)), (-1, 2))
        self.assertEqual(over((2, 3), (-4, 3)), (-1, 2))
        self.assertEqual(over((0, 1), (-4, 3)), (0, 1))

    def test_order_of_near_ones(self):
        near = (GREAT, GREAT + 1)
        nearer = (GREAT + 1, GREAT + 2)
        self.assertEqual(order(near, nearer), -1)
        self.assertEqual(order(nearer, near), 1)
        self.assertEqual(order(near, (GREAT, GREAT + 1)), 0)
        self.assertEqual(order((-1, 2), (1, 3)), -1)
        self.assertEqual(order((-1, 2), (-1, 3)), -1)

    def test_parting_by_nought(self):
        for one in ((0, 1), (1, 1), (-5, 7), (GREAT, 1)):
            assert_refused(self, BadShare, over, one, (0, 1))


if __name__ == "__main__":
    unittest.main()
