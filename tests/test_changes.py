"""Points 13, 14 and 15: a story changed at its moment, by a push or a turn."""

import unittest
from fractions import Fraction

from beadway.errors import BadBead, BadShare, Together
from beadway.story import Story
from tests.helpers import assert_refused, no_bead_of, no_row_shares, told
from tests.own import Course, light_between, small_rows

KINDS = ("stick", "bounce")
REST = [(1, (0, 1), (0, 1)), (3, (10, 1), (0, 1)), (2, (20, 1), (0, 1))]
CLOSE = [(1, (0, 1), (1, 1)), (3, (2, 1), (0, 1)), (1, (8, 1), (-1, 1))]


def frac(share):
    return Fraction(*share)


def speeds(story):
    return [run[3] for run in story.now()[1]]


def snapshot(story):
    return (story.now(), story.events())


class PushTest(unittest.TestCase):
    def test_at_moment_nought(self):
        for kind in KINDS:
            story = Story(REST, kind)
            self.assertIsNone(story.push(1, (5, 1)))
            state = [(0, 0, (0, 1), (0, 1)), (1, 1, (10, 1), (5, 1)), (2, 2, (20, 1), (0, 1))]
            self.assertEqual(story.now(), ((0, 1), state))
            self.assertEqual(story.next(), ((2, 1), [(1, 2)]))
            self.assertEqual(story.back(), (0, 1))
            self.assertEqual(speeds(story), [(0, 1), (5, 1), (0, 1)])

    def test_between_meetings(self):
        story = Story(CLOSE, "bounce")
        story.to((1, 1))
        story.push(1, (1, 1))
        state = [(0, 0, (1, 1), (1, 1)), (1, 1, (2, 1), (1, 1)), (2, 2, (7, 1), (-1, 1))]
        self.assertEqual(story.now(), ((1, 1), state))
        self.assertEqual(story.next(), ((7, 2), [(1, 2)]))
        story.to((1, 2))
        state = [(0, 0, (1, 2), (1, 1)), (1, 1, (2, 1), (0, 1)), (2, 2, (15, 2), (-1, 1))]
        self.assertEqual(story.now(), ((1, 2), state))

    def test_all_that_are_one_with_it(self):
        for bead in (0, 1):
            story = Story(CLOSE, "stick")
            story.to((3, 1))
            story.push(bead, (-7, 2))
            self.assertEqual(story.now(), ((3, 1), [(0, 1, (9, 4), (-7, 2)), (2, 2, (5, 1), (-1, 1))]))
            self.assertIsNone(story.next())
            story.to((4, 1))
            self.assertEqual(story.now()[1], [(0, 1, (-5, 4), (-7, 2)), (2, 2, (4, 1), (-1, 1))])
        story.to((3, 1))
        story.push(2, (-30, 1))
        self.assertEqual(speeds(story), [(-7, 2), (-30, 1)])
        self.assertEqual(story.next()[1], [(0, 2)])

    def test_at_a_meeting_s_own_moment_it_is_behind_the_meeting(self):
        story = Story(CLOSE, "stick")
        story.next()
        story.push(0, (-1, 1))
        self.assertEqual(story.now(), ((2, 1), [(0, 1, (2, 1), (-1, 1)), (2, 2, (6, 1), (-1, 1))]))
        self.assertEqual(story.events(), [((2, 1), [(0, 1)])])
        self.assertIsNone(story.next())
        story.to((5, 1))
        self.assertEqual(story.back(), (2, 1))
        self.assertEqual(speeds(story), [(-1, 1), (-1, 1)])
        self.assertEqual(story.back(), (0, 1))
        self.assertEqual(story.next(), ((2, 1), [(0, 1)]))
        self.assertEqual(speeds(story), [(-1, 1), (-1, 1)])

    def test_several_at_one_moment_all_stay(self):
        for kind in KINDS:
            story = Story(REST, kind)
            story.to((1, 1))
            for bead, speed in ((0, (1, 1)), (1, (9, 1)), (2, (5, 1)), (1, (2, 1))):
                story.push(bead, speed)
            self.assertEqual(speeds(story), [(1, 1), (2, 1), (5, 1)])
            self.assertIsNone(story.next())
            story.to((0, 1))
            self.assertEqual(speeds(story), [(0, 1)] * 3)
            story.to((3, 1))
            self.assertEqual([run[2] for run in story.now()[1]], [(2, 1), (14, 1), (30, 1)])

    def test_limits_of_a_speed(self):
        for good in ((0, 1), (1000000, 1), (-1000000, 1), (1, 60), (-1, 60), (999999, 59), (-999999, 59)):
            story = Story(REST, "bounce")
            story.push(2, good)
            self.assertEqual(speeds(story)[2], good)
        for bad in ((1000001, 1), (-1000001, 1), (1, 61), (-1, 61), (2, 2), (0, 2), 1, None, True, [1, 1], (True, 1)):
            assert_refused(self, BadShare, Story(REST, "bounce").push, 2, bad)

    def test_a_bead_that_is_none(self):
        for bad in (-1, 3, 4, 10 ** 30, True, False, None, "0", (0, 0), [0]):
            for kind in KINDS:
                assert_refused(self, BadBead, Story(REST, kind).push, bad, (1, 1))

    def test_the_row_s_beads_not_the_state_s(self):
        story = Story(CLOSE, "stick")
        story.to((100, 1))
        self.assertEqual(len(story.now()[1]), 1)
        story.push(2, (4, 1))
        self.assertEqual(speeds(story), [(4, 1)])
        assert_refused(self, BadBead, story.push, 3, (4, 1))


class TurnTest(unittest.TestCase):
    def test_all_speeds_the_other_way(self):
        for kind in KINDS:
            story = Story(CLOSE, kind)
            story.to((1, 1))
            self.assertIsNone(story.turn())
            state = [(0, 0, (1, 1), (-1, 1)), (1, 1, (2, 1), (0, 1)), (2, 2, (7, 1), (1, 1))]
            self.assertEqual(story.now(), ((1, 1), state))
            self.assertIsNone(story.next())

    def test_sticking_ones_stay_one(self):
        story = Story(CLOSE, "stick")
        story.next()
        story.turn()
        self.assertEqual(story.now(), ((2, 1), [(0, 1, (2, 1), (-1, 4)), (2, 2, (6, 1), (1, 1))]))
        story.to((4, 1))
        self.assertEqual(story.now()[1], [(0, 1, (3, 2), (-1, 4)), (2, 2, (8, 1), (1, 1))])
        self.assertEqual(story.events(), [((2, 1), [(0, 1)])])

    def test_a_sticking_story_does_not_come_back(self):
        story = Story(CLOSE, "stick")
        story.to((3, 1))
        story.turn()
        story.to((6, 1))
        self.assertNotEqual([run[2] for run in story.now()[1]], [bead[1] for bead in CLOSE])

    def test_a_bouncing_story_comes_to_its_first_places(self):
        counts = set()
        rows = small_rows(19, 300) + [light_between(), light_between() + light_between(1000)]
        for row in rows:
            course = Course(row, "bounce")
            moments = [frac(event[0]) for event in course.events]
            # Ahead of the end, or of the refusal, and not at a meeting's own moment.
            end = course.refusal[0] if course.refusal else (moments or [Fraction(0)])[-1] + 2
            moment = ((moments or [Fraction(0)])[-1] + end) / 2
            story = Story(row, "bounce")
            story.to(told(moment))
            story.turn()
            story.to(told(2 * moment))
            first = [(at, at, place, told(-frac(speed))) for at, (weight, place, speed) in enumerate(row)]
            self.assertEqual(story.now(), (told(2 * moment), first))
            again = [(told(2 * moment - frac(at)), stretches) for at, stretches in reversed(course.events)]
            self.assertEqual(story.events(), course.events + again)
            counts.add(len(moments))
        self.assertGreater(counts, {0, 1, 5, 12})

    def test_turned_twice(self):
        story = Story(CLOSE, "bounce")
        story.to((1, 1))
        story.turn()
        story.turn()
        self.assertEqual(story.next(), ((2, 1), [(0, 1)]))


class DroppedTest(unittest.TestCase):
    def test_going_back_undoes_no_change(self):
        for kind in KINDS:
            story = Story(REST, kind)
            story.push(0, (1, 1))
            story.to((4, 1))
            story.push(0, (2, 1))
            story.to((6, 1))
            story.push(1, (1, 2))
            changes = [(Fraction(0), (0, (1, 1))), (Fraction(4), (0, (2, 1))), (Fraction(6), (1, (1, 2)))]
            end = Course(REST, kind, changes)
            for moment in (20, 6, 5, 4, 1, 0, 30, 3, 4, 6, 9):
                story.to((moment, 1))
                self.assertEqual(story.now(), ((moment, 1), end.state(Fraction(moment))))
                self.assertEqual(story.events(), end.events_to(Fraction(moment)))
            story.to((0, 1))
            self.assertEqual(story.next(), end.events[0])

    def test_changes_at_later_moments_are_dropped_earlier_ones_stay(self):
        for kind in KINDS:
            story = Story(REST, kind)
            for moment, bead, speed in ((1, 0, (1, 1)), (2, 1, (-1, 2)), (3, 2, (-2, 1))):
                story.to((moment, 1))
                story.push(bead, speed)
            story.to((2, 1))
            story.push(2, (0, 1))
            rest = [(Fraction(1), (0, (1, 1))), (Fraction(2), (1, (-1, 2))), (Fraction(2), (2, (0, 1)))]
            end = Course(REST, kind, rest)
            for moment in (0, 1, 2, 3, 5, 50):
                story.to((moment, 1))
                self.assertEqual(story.now(), ((moment, 1), end.state(Fraction(moment))))
                self.assertEqual(story.events(), end.events_to(Fraction(moment)))

    def test_a_turn_drops_them_too(self):
        story = Story(REST, "stick")
        story.to((5, 1))
        story.push(0, (7, 1))
        story.to((4, 1))
        story.turn()
        story.to((9, 1))
        self.assertEqual(speeds(story), [(0, 1)] * 3)
        self.assertIsNone(story.next())

    def test_meetings_behind_a_change_are_reckoned_anew(self):
        for kind in KINDS:
            story = Story(CLOSE, kind)
            story.to((100, 1))
            self.assertTrue(story.events())
            story.to((1, 1))
            story.push(0, (-1, 1))
            self.assertEqual(story.next(), ((6, 1), [(1, 2)]))
            self.assertEqual(story.events(), [((6, 1), [(1, 2)])])

    def test_next_over_a_later_change(self):
        story = Story(REST, "bounce")
        story.to((5, 1))
        story.push(0, (1, 1))
        story.to((1, 1))
        self.assertEqual(story.next(), ((15, 1), [(0, 1)]))
        story.to((5, 1))
        story.push(0, (0, 1))
        story.to((1, 1))
        self.assertIsNone(story.next())
        self.assertEqual(story.now()[0], (1, 1))

    def test_back_does_not_stop_at_a_change(self):
        story = Story(CLOSE, "stick")
        story.to((3, 1))
        story.push(0, (0, 1))
        story.to((4, 1))
        self.assertEqual(story.back(), (2, 1))
        self.assertEqual(speeds(story), [(1, 4), (-1, 1)])
        self.assertEqual(story.back(), (0, 1))


class TogetherTest(unittest.TestCase):
    def check_stays(self, story, kind, call, *given):
        before = snapshot(story)
        assert_refused(self, kind, call, *given)
        self.assertEqual(snapshot(story), before)

    def test_two_at_one_place(self):
        story = Story(CLOSE, "bounce")
        story.next()
        for bead in range(3):
            self.check_stays(story, Together, story.push, bead, (1, 1))
        self.check_stays(story, Together, story.turn)
        for moment in (Fraction(2) - Fraction(1, 10 ** 30), Fraction(2) + Fraction(1, 10 ** 30)):
            near = Story(CLOSE, "bounce")
            near.to(told(moment))
            near.push(2, (1, 1))
            near.turn()
            self.assertEqual(speeds(near)[2], (-1, 1))

    def test_also_of_alike_ones_and_of_three(self):
        row = [(7, (-2, 1), (1, 1)), (7, (0, 1), (0, 1)), (7, (4, 1), (-2, 1)), (1, (50, 1), (0, 1))]
        for story in (Story(row, "bounce"), Story(row[:2] + row[3:], "bounce")):
            story.to((2, 1))
            self.check_stays(story, Together, story.turn)
            self.check_stays(story, Together, story.push, 2, (0, 1))

    def test_never_in_a_sticking_story(self):
        for row in small_rows(20, 60):
            story = Story(row, "stick")
            while story.next() is not None:
                story.turn()
                story.turn()
                story.push(0, story.now()[1][0][3] if story.now()[1][0][3][1] <= 60 else (0, 1))

    def test_a_refused_change_drops_nothing(self):
        story = Story(CLOSE, "bounce")
        story.to((3, 1))
        story.push(2, (50, 1))
        end = Course(CLOSE, "bounce", [(Fraction(3), (2, (50, 1)))])
        story.back()
        self.check_stays(story, Together, story.turn)
        self.check_stays(story, Together, story.push, 0, (1, 1))
        self.check_stays(story, BadBead, story.push, 5, (1, 1))
        self.check_stays(story, BadShare, story.push, 0, (1, 61))
        story.to((1, 1))
        self.check_stays(story, BadBead, story.push, 5, (1, 1))
        self.check_stays(story, BadShare, story.push, 0, (1, 61))
        story.to((7, 1))
        self.assertEqual(snapshot(story), (((7, 1), end.state(Fraction(7))), end.events_to(Fraction(7))))

    def test_what_is_asked_first(self):
        story = Story(CLOSE, "bounce")
        story.next()
        for bad in no_bead_of(CLOSE):
            self.check_stays(story, BadBead, story.push, bad, (1, 61))
            self.check_stays(story, BadBead, story.push, bad, (1, 1))
        for bad in no_row_shares():
            self.check_stays(story, BadShare, story.push, 0, bad)
            self.check_stays(story, BadBead, story.push, 3, bad)


if __name__ == "__main__":
    unittest.main()
