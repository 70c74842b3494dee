"""Points 16 to 19: moments of a story told at once, beside the same ones told meeting by meeting."""

import copy
import unittest
from fractions import Fraction

from beadway.answers import One, Parted
from beadway.atonce import bounced_at, ended, last_met, met, stuck_at, together
from beadway.errors import BadBead, BadMoment, BadRow, Unlike
from beadway.story import Story
from tests.helpers import assert_refused, line, no_bead_of, no_moments, no_rows, some_rows, told, worth
from tests.own import (Course, alike_rows, exchanges, light_between, near_moments, own_middle, own_one, own_parted,
                       small_rows)

THREE = [(1, (0, 1), (1, 1)), (3, (2, 1), (0, 1)), (1, (8, 1), (-1, 1))]
NEVER = [(1, (0, 1), (-1, 1)), (60, (1, 1), (-1, 1)), (2, (5, 2), (0, 1)), (3, (3, 1), (7, 60))]
ALIKE = [(4, (0, 1), (2, 1)), (4, (1, 1), (1, 1)), (4, (4, 1), (-2, 1))]
# The second one goes off from the first, but the heavy one brings it back to it.
BACK = [(1, (0, 1), (0, 1)), (1, (1, 1), (1, 1)), (60, (5, 1), (-3, 1))]


def moments_of(row, kind):
    return near_moments([Fraction(*event[0]) for event in Course(row, kind).events])


def pairs_of(row):
    return [(one, other) for other in range(len(row)) for one in range(other)]


def edge_rows():
    """Rows at the limits of point 4."""
    top = 1000000
    return [
        [(1, (-top, 1), (top, 1)), (60, (top, 1), (-top, 1))],
        [(60, (-top, 59), (1, 59)), (1, (-top + 1, 59), (-1, 60)), (7, (0, 1), (-top, 1))],
        [(1 + at, told(Fraction(at, 59)), told(Fraction(-at * 111111, 59))) for at in range(1, 10)],
        [(60 - at, (top - 9 + at, 1), (9 - at, 1)) for at in range(10)],
        line(10), line(1), [(1, (0, 1), (0, 1))], NEVER, BACK, THREE, light_between(),
    ]


class StuckAtTest(unittest.TestCase):
    def check_clumps(self, row, moment, state):
        """Whether they are the only stretches that point 16 names."""
        beads = [bead for first, last, place, speed in state for bead in range(first, last + 1)]
        self.assertEqual(beads, list(range(len(row))))
        middles = [own_middle(row, first, last, moment) for first, last, place, speed in state]
        self.assertEqual([worth(run[2]) for run in state], middles)
        self.assertEqual(middles, sorted(set(middles)))
        for first, last, place, speed in state:
            drive = sum(bead[0] * Fraction(*bead[2]) for bead in row[first:last + 1])
            self.assertEqual(worth(speed), drive / sum(bead[0] for bead in row[first:last + 1]))
            for cut in range(first, last):
                self.assertGreaterEqual(own_middle(row, first, cut, moment), own_middle(row, cut + 1, last, moment))

    def check(self, row):
        before = copy.deepcopy(row)
        course, story = Course(row, "stick"), Story(row, "stick")
        for moment in moments_of(row, "stick"):
            state = stuck_at(row, told(moment))
            self.check_clumps(row, moment, state)
            self.assertEqual(state, course.state(moment))
            story.to(told(moment))
            self.assertEqual(state, story.now()[1])
        self.assertEqual(row, before)

    def test_small_rows(self):
        for row in small_rows(31, 150):
            self.check(row)

    def test_rows_of_any_size(self):
        for row in some_rows(30) + edge_rows():
            self.check(row)

    def test_known_moments(self):
        apart = [(0, 0, (0, 1), (1, 1)), (1, 1, (2, 1), (0, 1)), (2, 2, (8, 1), (-1, 1))]
        self.assertEqual(stuck_at(THREE, (0, 1)), apart)
        self.assertEqual(stuck_at(THREE, (2, 1)), [(0, 1, (2, 1), (1, 4)), (2, 2, (6, 1), (-1, 1))])
        self.assertEqual(stuck_at(THREE, (26, 5)), [(0, 2, (14, 5), (0, 1))])
        self.assertEqual(stuck_at(row=THREE, moment=(10 ** 90, 1)), [(0, 2, (14, 5), (0, 1))])
        self.assertEqual(stuck_at([(9, (1, 2), (1, 3))], (3, 1)), [(0, 0, (3, 2), (1, 3))])

    def test_at_a_meeting_s_own_moment_behind_it(self):
        just = (2 * 10 ** 50 - 1, 10 ** 50)
        self.assertEqual([run[:2] for run in stuck_at(THREE, just)], [(0, 0), (1, 1), (2, 2)])
        self.assertEqual([run[:2] for run in stuck_at(THREE, (2, 1))], [(0, 1), (2, 2)])
        self.assertEqual([run[:2] for run in stuck_at(THREE, (2 * 10 ** 50 + 1, 10 ** 50))], [(0, 1), (2, 2)])

    def test_a_heavy_one_reaches_back(self):
        self.assertEqual([run[:2] for run in stuck_at(BACK, (1, 1))], [(0, 0), (1, 2)])
        self.assertEqual([run[:2] for run in stuck_at(BACK, (9, 1))], [(0, 2)])
        self.assertEqual(stuck_at(BACK, (9, 1))[0][2:], ((-655, 31), (-179, 62)))

    def test_all_at_one_place_at_once(self):
        row = [(1 + at, (at, 1), (-at, 1)) for at in range(10)]
        self.assertEqual(len(stuck_at(row, (10 ** 40 - 1, 10 ** 40))), 10)
        self.assertEqual(stuck_at(row, (1, 1)), [(0, 9, (0, 1), (-6, 1))])

    def test_two_spots_at_one_moment(self):
        row = [(1, (0, 1), (1, 1)), (9, (2, 1), (0, 1)), (5, (3, 1), (0, 1)), (1, (7, 1), (-2, 1))]
        self.assertEqual([run[:2] for run in stuck_at(row, (2, 1))], [(0, 1), (2, 3)])


class TogetherTest(unittest.TestCase):
    def check_answer(self, row, moment, one, other):
        answer = together(row, told(moment), one, other)
        self.assertIn(type(answer), (One, Parted))
        if type(answer) is One:
            self.assertEqual(list(vars(answer)), ["first", "last"])
            self.assertEqual([type(answer.first), type(answer.last)], [int, int])
            self.assertTrue(own_one(row, moment, one, other, answer.first, answer.last))
        else:
            self.assertEqual(list(vars(answer)), ["cut"])
            self.assertIs(type(answer.cut), int)
            self.assertTrue(own_parted(row, moment, one, other, answer.cut))
        self.assertIs(answer.shows(row, told(moment), one, other), True)
        return answer

    def check(self, row, seen):
        course = Course(row, "stick")
        for moment in moments_of(row, "stick"):
            stretches = [run[:2] for run in course.state(moment)]
            for one, other in pairs_of(row):
                answer = self.check_answer(row, moment, one, other)
                are_one = any(first <= one and other <= last for first, last in stretches)
                self.assertIs(type(answer) is One, are_one)
                seen.add(are_one)

    def test_all_pairs(self):
        seen = set()
        for row in small_rows(32, 30)[1:] + some_rows(6) + edge_rows():
            self.check(row, seen)
        self.assertEqual(seen, {True, False})

    def test_never_both(self):
        for row in small_rows(33, 30):
            for moment in (Fraction(0), Fraction(1), Fraction(3, 2), Fraction(9)):
                for one, other in pairs_of(row):
                    ones = [One(first, last).shows(row, told(moment), one, other)
                            for first in range(one + 1) for last in range(other, len(row))]
                    cuts = [Parted(cut).shows(row, told(moment), one, other) for cut in range(one, other)]
                    is_one = type(together(row, told(moment), one, other)) is One
                    self.assertEqual([any(ones), any(cuts)], [is_one, not is_one])

    def test_asked_of_other_moments_rows_and_beads(self):
        seen = set()
        rows = [row for row in small_rows(34, 30) if len(row) > 2]
        for at, row in enumerate(rows):
            others = [row, [(61 - bead[0],) + bead[1:] for bead in row], rows[at - 1]]
            for moment in (Fraction(0), Fraction(3, 2), Fraction(7)):
                for one, other in pairs_of(row)[:10]:
                    answer = together(row, told(moment), one, other)
                    self.check_elsewhere(answer, others, (moment, one, other), seen)
        self.assertEqual(seen, {(kind, truth) for kind in (One, Parted) for truth in (True, False)})

    def check_elsewhere(self, answer, rows, asked, seen):
        moment, one, other = asked
        for row in rows:
            places = [(one, other), (0, len(row) - 1), (len(row) - 2, len(row) - 1)]
            for first, later in [(first, later) for first, later in places if first < later < len(row)]:
                for when in (moment, moment + 1, moment / 3):
                    if type(answer) is One:
                        right = own_one(row, when, first, later, answer.first, answer.last)
                    else:
                        # A cut beyond another row's beads is no bead of it, and so not between two of them.
                        right = own_parted(row, when, first, later, answer.cut)
                    self.assertIs(answer.shows(row, told(when), first, later), right)
                    seen.add((type(answer), right))

    def test_known_answers(self):
        answer = together(row=THREE, moment=(2, 1), one=0, other=1)
        self.assertEqual((type(answer), vars(answer)), (One, {"first": 0, "last": 1}))
        answer = together(THREE, (2, 1), 0, 2)
        self.assertEqual((type(answer), vars(answer)), (Parted, {"cut": 1}))
        answer = together(THREE, (26, 5), 1, 2)
        self.assertEqual((type(answer), vars(answer)), (One, {"first": 0, "last": 2}))
        self.assertIs(type(together(THREE, (26 * 10 ** 40 - 1, 5 * 10 ** 40), 1, 2)), Parted)
        for one, other in pairs_of(NEVER):
            self.assertIs(type(together(NEVER, (10 ** 60, 1), one, other)), Parted)

    def test_each_answer_is_an_own_one(self):
        answer = together(THREE, (2, 1), 0, 1)
        answer.first, answer.last = 5, 6
        self.assertEqual(vars(together(THREE, (2, 1), 0, 1)), {"first": 0, "last": 1})

    def test_not_later(self):
        for one, other in ((0, 0), (2, 2), (1, 0), (2, 0), (2, 1)):
            assert_refused(self, BadBead, together, THREE, (1, 1), one, other)
        for bead in range(10):
            assert_refused(self, BadBead, together, line(10), (0, 1), bead, bead)
        assert_refused(self, BadBead, together, line(1), (0, 1), 0, 0)
        assert_refused(self, BadBead, together, line(1), (0, 1), 0, 1)

    def test_no_moment_ahead_of_no_bead(self):
        for bad in no_moments():
            assert_refused(self, BadMoment, together, THREE, bad, 1, 1)
            assert_refused(self, BadMoment, together, THREE, bad, 2, 0)
        for bad in no_bead_of(THREE)[::4]:
            assert_refused(self, BadMoment, together, THREE, (-1, 1), bad, bad)
            assert_refused(self, BadRow, together, THREE[::-1], (1, 1), bad, bad)


class EndedTest(unittest.TestCase):
    def check(self, row):
        course = Course(row, "stick")
        moment, stretches = ended(row)
        last = course.events[-1][0] if course.events else (0, 1)
        self.assertEqual(moment, last)
        self.assertEqual(stretches, [run[:2] for run in course.state(Fraction(*last))])
        self.assertEqual(stretches, [run[:2] for run in stuck_at(row, moment)])
        self.assertEqual(stretches, [run[:2] for run in stuck_at(row, told(worth(moment) * 2 + 10 ** 90))])
        if course.events:
            early = stuck_at(row, told(worth(moment) - Fraction(1, 10 ** 50)))
            self.assertGreater(len(early), len(stretches))
        return moment

    def test_small_rows(self):
        moments = [self.check(row) for row in small_rows(35, 200)]
        self.assertIn((0, 1), moments)
        self.assertGreater(len(set(moments)), 50)

    def test_rows_of_any_size(self):
        for row in some_rows(40) + edge_rows():
            self.check(row)

    def test_kinds_of_values(self):
        answer = ended(THREE)
        self.assertEqual([type(answer), type(answer[0]), type(answer[1])], [tuple, tuple, list])
        self.assertEqual([type(stretch) for stretch in ended(NEVER)[1]], [tuple] * 4)
        self.assertEqual(answer, ((26, 5), [(0, 2)]))
        self.assertEqual(ended(row=THREE[:2]), ((2, 1), [(0, 1)]))

    def test_each_by_itself_if_none_ever_meet(self):
        self.assertEqual(ended(NEVER), ((0, 1), [(0, 0), (1, 1), (2, 2), (3, 3)]))
        self.assertEqual(ended([(60, (-7, 2), (1000000, 1))]), ((0, 1), [(0, 0)]))
        still = [(1, (at, 1), (5, 7)) for at in range(10)]
        self.assertEqual(ended(still), ((0, 1), [(at, at) for at in range(10)]))

    def test_as_fast_as_the_next_ones_is_never_to_meet(self):
        # The first two stick and then go as fast as the third.
        row = [(1, (0, 1), (2, 1)), (1, (1, 1), (0, 1)), (1, (5, 1), (1, 1))]
        self.assertEqual(ended(row), ((1, 2), [(0, 1), (2, 2)]))
        slower = row[:2] + [(1, (5, 1), (59, 60))]
        self.assertEqual(ended(slower)[1], [(0, 2)])

    def test_the_last_of_several_stretches(self):
        row = [(1, (0, 1), (1, 1)), (1, (9, 1), (0, 1)), (2, (100, 1), (3, 1)), (2, (101, 1), (2, 1))]
        self.assertEqual(ended(row), ((9, 1), [(0, 1), (2, 3)]))
        row[1] = (1, (1, 2), (0, 1))
        self.assertEqual(ended(row), ((1, 1), [(0, 1), (2, 3)]))


class BouncedAtTest(unittest.TestCase):
    def check(self, row):
        before = copy.deepcopy(row)
        course, story = Course(row, "bounce"), Story(row, "bounce")
        self.assertIsNone(course.refusal)
        for moment in moments_of(row, "bounce"):
            state = bounced_at(row, told(moment))
            self.assertEqual(state, course.state(moment))
            story.to(told(moment))
            self.assertEqual(state, story.now()[1])
            self.assertEqual(met(row, told(moment)), exchanges(course.events_to(moment)))
            self.assertEqual(met(row, told(moment)), exchanges(story.events()))
            self.assertIs(type(met(row, told(moment))), int)
        self.assertEqual(last_met(row), course.events[-1][0] if course.events else None)
        self.assertEqual(row, before)
        return exchanges(course.events)

    def test_small_rows(self):
        counts = {self.check(row) for row in alike_rows(36, 150)}
        self.assertGreater(counts, {0, 1, 2, 3, 20})

    def test_rows_of_any_size(self):
        for at, row in enumerate(some_rows(30) + edge_rows()):
            self.check([(1 + 59 * (at % 2),) + bead[1:] for bead in row])

    def test_known_moments(self):
        # The straight ways are at 2, 2 and 2 at moment 1, and at 8, 5 and -4 at moment 4.
        self.assertEqual(bounced_at(ALIKE, (0, 1)),
                         [(0, 0, (0, 1), (2, 1)), (1, 1, (1, 1), (1, 1)), (2, 2, (4, 1), (-2, 1))])
        self.assertEqual(bounced_at(ALIKE, (1, 1)),
                         [(0, 0, (2, 1), (-2, 1)), (1, 1, (2, 1), (1, 1)), (2, 2, (2, 1), (2, 1))])
        self.assertEqual(bounced_at(row=ALIKE, moment=(4, 1)),
                         [(0, 0, (-4, 1), (-2, 1)), (1, 1, (5, 1), (1, 1)), (2, 2, (8, 1), (2, 1))])
        near = (10 ** 40 - 1, 10 ** 40)
        self.assertEqual([met(ALIKE, moment) for moment in ((0, 1), near, (1, 1), (10 ** 60, 1))], [0, 0, 3, 3])
        self.assertEqual(met(row=ALIKE, moment=(1, 1)), 3)
        self.assertEqual(last_met(row=ALIKE), (1, 1))

    def test_a_stretch_makes_as_many_as_it_has_pairs(self):
        row = [(2, (at, 1), (-at, 1)) for at in range(10)]
        self.assertEqual([met(row, moment) for moment in ((0, 1), (99, 100), (1, 1), (2, 1))], [0, 0, 45, 45])
        self.assertEqual(bounced_at(row, (1, 1)), [(at, at, (0, 1), (at - 9, 1)) for at in range(10)])
        self.assertEqual(last_met(row), (1, 1))

    def test_none_where_there_is_none(self):
        for row in ([(7, (0, 1), (1, 1))], [(3, (at, 1), (at, 7) if at % 7 else (at // 7, 1)) for at in range(8)],
                    [(60, (at, 1), (-5, 3)) for at in range(10)]):
            self.assertIsNone(last_met(row))
            self.assertEqual(met(row, (10 ** 60, 1)), 0)
            self.assertEqual([run[0] for run in bounced_at(row, (10 ** 60, 1))], list(range(len(row))))

    def test_the_last_exchange_needn_t_be_of_neighbours_in_the_row(self):
        row = [(5, (0, 1), (3, 1)), (5, (1, 1), (4, 1)), (5, (100, 1), (2, 1))]
        self.assertEqual(last_met(row), (100, 1))
        self.assertEqual(met(row, (100, 1)), 2)
        self.assertEqual(met(row, (99, 1)), 1)

    def test_unlike_ones(self):
        for size in range(2, 11):
            for at in range(size):
                row = [(5 + (bead == at), (bead, 1), (0, 1)) for bead in range(size)]
                self.check_unlike(row)
        self.check_unlike(THREE)
        self.check_unlike(light_between())

    def check_unlike(self, row):
        before = copy.deepcopy(row)
        assert_refused(self, Unlike, last_met, row)
        for moment in ((0, 1), (5, 2), (10 ** 60, 1)):
            assert_refused(self, Unlike, bounced_at, row, moment)
            assert_refused(self, Unlike, met, row, moment)
        self.assertEqual(row, before)

    def test_unlike_ahead_of_no_moment_and_behind_no_row(self):
        for bad in no_moments():
            for call in (bounced_at, met):
                assert_refused(self, Unlike, call, THREE, bad)
                assert_refused(self, BadMoment, call, ALIKE, bad)
        for bad in no_rows()[::3]:
            assert_refused(self, BadRow, last_met, bad)
        for row in (THREE[::-1], THREE + [(1, (9, 1), (0, 2))], THREE + line(8)):
            for call in (bounced_at, met):
                assert_refused(self, BadRow, call, row, (-1, 1))
            assert_refused(self, BadRow, last_met, row)


if __name__ == "__main__":
    unittest.main()
