"""Point 21: rows mirrored, carried and slowed, and the stories of the rows that come."""

import copy
import random
import unittest
from fractions import Fraction

from beadway.atonce import bounced_at, ended, last_met, met, stuck_at
from beadway.errors import BadRow, BadShare, TooFar
from beadway.story import Story
from beadway.turning import carried, mirrored, slowed
from tests.helpers import assert_refused, line, no_rows, no_shares, some_rows, told, worth
from tests.own import Course, alike_rows, light_between, near_moments, small_rows

KINDS = ("stick", "bounce")
ROW = [(3, (0, 1), (2, 1)), (1, (4, 1), (-1, 2)), (60, (9, 2), (0, 1))]
CROWD = [(1, (-2, 1), (1, 1)), (2, (0, 1), (0, 1)), (1, (4, 1), (-2, 1))]


def frac(share):
    return Fraction(*share)


def own_row(row, change):
    """The row with each speed changed; None if that is none."""
    speeds = [change(frac(speed)) for weight, place, speed in row]
    if any(abs(speed.numerator) > 1000000 or speed.denominator > 60 for speed in speeds):
        return None
    return [bead[:2] + (told(speed),) for bead, speed in zip(row, speeds)]


def some_speeds(source):
    """Shares of any size and sign: such as stay within a row's limits, such as don't, and such as may."""
    found = [(0, 1), (1, 1), (-1, 1), (1, 60), (-1, 59), (1, 61), (1, 120), (-7, 120), (1, 3600), (1000000, 1),
             (-1000000, 1), (2000000, 1), (-2000000, 1), (2000001, 1), (999999, 1), (10 ** 60, 1), (-10 ** 60, 1),
             (1, 10 ** 60), (10 ** 60, 10 ** 60 + 1)]
    return found + [told(Fraction(source.randint(-50, 50), source.randint(1, 130))) for _ in range(12)]


class RowsTest(unittest.TestCase):
    def check_turned(self, call, row, given, right):
        """Whether this row comes, or, where there is none, it is refused; and nothing handed in is changed."""
        before = copy.deepcopy(row)
        if right is None:
            assert_refused(self, TooFar, call, row, given)
        else:
            turned = call(row, given)
            self.assertEqual(turned, right)
            self.assertIs(type(turned), list)
            self.assertIsNot(turned, row)
            for bead in turned:
                self.assertEqual([type(part) for part in bead], [int, tuple, tuple])
                worth(bead[1]), worth(bead[2])
        self.assertEqual(row, before)
        return right is not None

    def test_mirrored(self):
        self.assertEqual(mirrored(ROW), [(60, (-9, 2), (0, 1)), (1, (-4, 1), (1, 2)), (3, (0, 1), (-2, 1))])
        self.assertEqual(mirrored(row=ROW[:1]), [(3, (0, 1), (-2, 1))])
        for row in some_rows(30) + small_rows(51, 30) + [line(10)]:
            before = copy.deepcopy(row)
            turned = mirrored(row)
            self.assertEqual(turned, [(weight, told(-frac(place)), told(-frac(speed)))
                                      for weight, place, speed in reversed(row)])
            self.assertEqual(mirrored(turned), row)
            self.assertEqual(row, before)
            self.assertEqual(Story(turned, "stick").now()[0], (0, 1))

    def test_mirrored_is_never_too_far(self):
        row = [(1, (-1000000, 1), (1000000, 1)), (60, (-1000000, 59), (-1000000, 59)), (2, (1000000, 1), (-1000000, 1))]
        self.assertEqual(mirrored(mirrored(row)), row)
        self.assertEqual(mirrored(row)[0], (2, (-1000000, 1), (1000000, 1)))

    def test_carried(self):
        self.assertEqual(carried(ROW, (1, 2)), [(3, (0, 1), (5, 2)), (1, (4, 1), (0, 1)), (60, (9, 2), (1, 2))])
        self.assertEqual(carried(row=ROW, speed=(0, 1)), ROW)
        source, seen = random.Random(52), set()
        for row in some_rows(20) + small_rows(53, 40):
            for speed in some_speeds(source):
                right = own_row(row, lambda old: old + frac(speed))
                seen.add(self.check_turned(carried, row, speed, right))
        self.assertEqual(seen, {True, False})

    def test_slowed(self):
        self.assertEqual(slowed(ROW, (2, 3)), [(3, (0, 1), (4, 3)), (1, (4, 1), (-1, 3)), (60, (9, 2), (0, 1))])
        self.assertEqual(slowed(row=ROW, share=(1, 1)), ROW)
        source, seen = random.Random(54), set()
        for row in some_rows(20) + small_rows(55, 40):
            for share in some_speeds(source):
                if share[0] > 0:
                    right = own_row(row, lambda old: old * frac(share))
                    seen.add(self.check_turned(slowed, row, share, right))
        self.assertEqual(seen, {True, False})

    def test_just_at_the_limits(self):
        row = [(1, (0, 1), (0, 1)), (1, (1, 1), (1, 60)), (1, (2, 1), (-5, 1))]
        for speed, is_row in (((1000000, 1), False), ((16666, 1), True), ((16667, 1), False), ((-16666, 1), True),
                              ((-16667, 1), False), ((1, 60), True), ((1, 7), False), ((1, 61), False)):
            self.assertEqual(self.check_turned(carried, row, speed, own_row(row, lambda old: old + frac(speed))), is_row)
        fast = [(1, (0, 1), (500000, 1)), (1, (1, 1), (-500000, 1))]
        for share, is_row in (((2, 1), True), ((2000001, 1000000), False), ((1, 60), True), ((1, 61), False),
                              ((500001, 250000), False), ((10 ** 60, 1), False), ((1, 500000), True),
                              ((1, 30000000), True), ((1, 30500000), False)):
            self.assertEqual(self.check_turned(slowed, fast, share, own_row(fast, lambda old: old * frac(share))), is_row)

    def test_one_bead_of_many_too_far(self):
        for at in range(10):
            row = [(1, (bead, 1), (999999, 1) if bead == at else (0, 1)) for bead in range(10)]
            self.check_turned(carried, row, (1, 1), own_row(row, lambda old: old + 1))
            assert_refused(self, TooFar, carried, row, (2, 1))
            self.assertEqual(carried(row, (-1000000, 1))[at][2], (-1, 1))
            assert_refused(self, TooFar, carried, row, (-1000001, 1))
            assert_refused(self, TooFar, slowed, row, (2, 1))
            assert_refused(self, TooFar, slowed, row, (1, 61))
            self.assertEqual(slowed(row, (1, 11))[at][2], (90909, 1))

    def test_no_speed_is_never_too_far(self):
        still = [(1, (at, 1), (0, 1)) for at in range(10)]
        for share in ((10 ** 60, 1), (1, 10 ** 60), (10 ** 60, 10 ** 60 + 1)):
            self.assertEqual(slowed(still, share), still)

    def test_a_speed_of_a_greater_bottom_may_come_to_a_row(self):
        row = [(1, (0, 1), (1, 40)), (1, (1, 1), (3, 40))]
        self.assertEqual(carried(row, (1, 120)), [(1, (0, 1), (1, 30)), (1, (1, 1), (1, 12))])
        self.assertEqual(slowed([(1, (0, 1), (1000000, 1))], (1, 1000000)), [(1, (0, 1), (1, 1))])

    def test_refused(self):
        for bad in no_shares():
            assert_refused(self, BadShare, carried, ROW, bad)
            assert_refused(self, BadShare, slowed, ROW, bad)
        for share in ((0, 1), (-1, 1), (-1, 60), (-10 ** 60, 1), (-1, 10 ** 60)):
            assert_refused(self, BadShare, slowed, ROW, share)
            assert_refused(self, BadShare, slowed, [(1, (0, 1), (0, 1))], share)
        for bad in no_rows()[::4]:
            assert_refused(self, BadRow, mirrored, bad)
            assert_refused(self, BadRow, carried, bad, (10 ** 60, 1))
            assert_refused(self, BadRow, slowed, bad, (-1, 1))

    def test_no_share_ahead_of_too_far(self):
        for bad in ((2 * 10 ** 60, 2), (10 ** 60, -1), (10 ** 60, True), 10 ** 60):
            assert_refused(self, BadShare, carried, ROW, bad)
            assert_refused(self, BadShare, slowed, ROW, bad)


class StoriesTest(unittest.TestCase):
    """What the stories of the rows that come tell, by those of the first rows, of both kinds."""

    def rows(self):
        return small_rows(56, 40) + [CROWD, light_between(), ROW, line(10)]

    def check_story(self, row, kind, turned, moment_there, run_there, stretch_there):
        """Whether the turned row's story is the row's one, each moment, run and stretch told otherwise."""
        first, second = Story(row, kind), Story(turned, kind)
        course = Course(row, kind)
        moments = near_moments([frac(event[0]) for event in course.events])
        if course.refusal:
            moments += near_moments([course.refusal[0]])
        for moment in moments:
            refusal = course.refuses(moment)
            if refusal:
                assert_refused(self, refusal, first.to, told(moment))
                assert_refused(self, refusal, second.to, told(moment_there(moment)))
                continue
            first.to(told(moment))
            second.to(told(moment_there(moment)))
            state = sorted(run_there(run, moment) for run in first.now()[1])
            self.assertEqual(second.now(), (told(moment_there(moment)), state))
            events = [(told(moment_there(frac(when))), sorted(stretch_there(stretch) for stretch in stretches))
                      for when, stretches in first.events()]
            self.assertEqual(second.events(), events)

    def test_mirrored(self):
        for row in self.rows():
            last = len(row) - 1
            for kind in KINDS:
                self.check_story(row, kind, mirrored(row), lambda moment: moment,
                                 lambda run, moment: (last - run[1], last - run[0], told(-frac(run[2])),
                                                      told(-frac(run[3]))),
                                 lambda stretch: (last - stretch[1], last - stretch[0]))

    def test_carried(self):
        for row in self.rows():
            for speed in ((3, 1), (-5, 2)):
                for kind in KINDS:
                    self.check_story(row, kind, carried(row, speed), lambda moment: moment,
                                     lambda run, moment: run[:2] + (told(frac(run[2]) + frac(speed) * moment),
                                                                    told(frac(run[3]) + frac(speed))),
                                     lambda stretch: stretch)

    def test_slowed(self):
        for row in self.rows():
            for share in ((1, 2), (5, 3)):
                if own_row(row, lambda old: old * frac(share)) is None:
                    continue
                for kind in KINDS:
                    self.check_story(row, kind, slowed(row, share), lambda moment: moment / frac(share),
                                     lambda run, moment: run[:3] + (told(frac(run[3]) * frac(share)),),
                                     lambda stretch: stretch)

    def test_told_at_once(self):
        for row in alike_rows(57, 40):
            share, speed = (2, 3), (7, 4)
            slow, along, back = slowed(row, share), carried(row, speed), mirrored(row)
            moment, stretches = ended(row)
            last = len(row) - 1
            self.assertEqual(ended(slow), (told(frac(moment) / frac(share)), stretches))
            self.assertEqual(ended(along), (moment, stretches))
            self.assertEqual(ended(back), (moment, [(last - one[1], last - one[0]) for one in reversed(stretches)]))
            self.assertEqual(last_met(along), last_met(row))
            self.assertEqual(last_met(back), last_met(row))
            for when in (Fraction(1), Fraction(5, 2), frac(moment)):
                self.assertEqual(met(slow, told(when / frac(share))), met(row, told(when)))
                self.assertEqual([run[2] for run in stuck_at(slow, told(when / frac(share)))],
                                 [run[2] for run in stuck_at(row, told(when))])
                self.assertEqual([frac(run[2]) - frac(speed) * when for run in bounced_at(along, told(when))],
                                 [frac(run[2]) for run in bounced_at(row, told(when))])


if __name__ == "__main__":
    unittest.main()
