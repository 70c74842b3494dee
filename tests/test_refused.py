"""Point 10: bouncing stories that are refused from a moment on, crowded or with too many exchanges."""

import unittest
from fractions import Fraction

from beadway.errors import Crowded, TooMany
from beadway.story import Story
from tests.helpers import assert_refused, told
from tests.own import Course, light_between, small_rows

CROWD = [(1, (-2, 1), (1, 1)), (2, (0, 1), (0, 1)), (1, (4, 1), (-2, 1)), (1, (90, 1), (0, 1)), (2, (91, 1), (-1, 1))]
TINY = Fraction(1, 10 ** 40)


def frac(share):
    return Fraction(*share)


class Refusals(unittest.TestCase):
    def check_refused(self, story, kind, moment):
        """Whether the story, ahead of this moment, is told up to there, and refused from there on."""
        before = (story.now(), story.events())
        for later in (moment, moment + TINY, moment + 1, moment * 2, moment + 10 ** 60):
            assert_refused(self, kind, story.to, told(later))
            self.assertEqual((story.now(), story.events()), before)
        story.to(told(moment - TINY))
        near = (story.now(), story.events())
        self.assertEqual(near[0][0], told(moment - TINY))
        for _ in range(2):
            assert_refused(self, kind, story.next)
            self.assertEqual((story.now(), story.events()), near)
        assert_refused(self, kind, story.to, told(moment))
        self.assertEqual((story.now(), story.events()), near)
        story.to(before[0][0])
        self.assertEqual((story.now(), story.events()), before)

    def check_steps(self, story, events):
        """Whether these events come from the beginning on, and nothing is refused up to then."""
        story.to((0, 1))
        for count in range(len(events)):
            self.assertEqual(story.next(), events[count])
            self.assertEqual(story.events(), events[:count + 1])


class CrowdedTest(Refusals):
    def test_three_not_all_of_one_weight(self):
        self.check_refused(Story(CROWD[:3], "bounce"), Crowded, Fraction(2))

    def test_whichever_is_the_unlike_one(self):
        for weights in ((1, 1, 2), (1, 2, 1), (2, 1, 1), (1, 2, 3)):
            row = [(weight,) + bead[1:] for weight, bead in zip(weights, CROWD)]
            self.check_refused(Story(row, "bounce"), Crowded, Fraction(2))
        row = [(2,) + bead[1:] for bead in CROWD[:3]]
        self.assertEqual(Story(row, "bounce").next(), ((2, 1), [(0, 2)]))

    def test_behind_other_meetings(self):
        row = CROWD[:3] + [(1, (90, 1), (0, 1)), (2, (91, 1), (-1, 1))]
        story = Story(row, "bounce")
        self.check_steps(story, [((1, 1), [(3, 4)])])
        self.check_refused(story, Crowded, Fraction(2))
        assert_refused(self, Crowded, story.next)
        self.assertEqual(story.events(), [((1, 1), [(3, 4)])])

    def test_beside_a_spot_that_is_let(self):
        row = CROWD[:3] + [(1, (90, 1), (0, 1)), (1, (92, 1), (-1, 1))]
        self.check_refused(Story(row, "bounce"), Crowded, Fraction(2))

    def test_ten_in_one_spot(self):
        row = [(1, (at, 1), (-at, 1)) for at in range(9)] + [(2, (9, 1), (-9, 1))]
        self.check_refused(Story(row, "bounce"), Crowded, Fraction(1))

    def test_two_alike_ahead_of_an_unlike_one(self):
        row = [(5, (0, 1), (1, 1)), (5, (2, 1), (0, 1)), (9, (6, 1), (-2, 1)), (9, (60, 1), (0, 1))]
        self.check_refused(Story(row, "bounce"), Crowded, Fraction(2))

    def test_a_change_ahead_of_it_may_let_it_go_on(self):
        story = Story(CROWD[:3], "bounce")
        assert_refused(self, Crowded, story.next)
        story.to((1, 1))
        story.push(2, (0, 1))
        self.assertEqual(story.next(), ((2, 1), [(0, 1)]))
        story.to((1, 1))
        story.push(2, (-2, 1))
        self.check_refused(story, Crowded, Fraction(2))

    def test_a_change_may_make_it(self):
        row = [bead[:2] + ((0, 1),) for bead in CROWD[:3]]
        story = Story(row, "bounce")
        story.push(0, (1, 1))
        story.push(2, (-2, 1))
        self.check_refused(story, Crowded, Fraction(2))

    def test_a_sticking_story_is_never_refused(self):
        for row in (CROWD, light_between(), [(1 + at, (at, 1), (-at, 1)) for at in range(10)]):
            story = Story(row, "stick")
            story.to((10 ** 40, 1))
            self.assertTrue(story.events())


class TooManyTest(Refusals):
    def test_twelve_are_let_and_the_thirteenth_refused(self):
        story = Story(light_between(), "bounce")
        course = Course(light_between(), "bounce")
        self.assertEqual(len(course.events), 12)
        self.check_refused(story, TooMany, course.refusal[0])
        self.check_steps(story, course.events)
        self.check_refused(story, TooMany, course.refusal[0])

    def test_straight_to_the_twelfth(self):
        course = Course(light_between(), "bounce")
        story = Story(light_between(), "bounce")
        story.to(course.events[-1][0])
        self.assertEqual(story.events(), course.events)

    def test_alike_ones_are_not_counted(self):
        alike = [(3, (1000 + at, 1), (-at, 1)) for at in range(7)]
        row = light_between() + alike
        story = Story(row, "bounce")
        self.assertEqual(story.next(), ((1, 1), [(3, 9)]))
        course = Course(light_between(), "bounce")
        self.check_steps(story, [((1, 1), [(3, 9)])] + course.events)
        self.check_refused(story, TooMany, course.refusal[0])

    def test_many_single_exchanges_of_alike_ones(self):
        row = [(9, (at * at, 1), (-at, 1)) for at in range(10)]
        course = Course(row, "bounce")
        self.assertGreater(len(course.events), 12)
        self.check_steps(Story(row, "bounce"), course.events)

    def test_two_in_one_meeting_count_twice(self):
        row = light_between() + light_between(1000)
        events = [(moment, [(0 + at, 1 + at), (3 + at, 4 + at)])
                  for moment, [(at, last)] in Course(light_between(), "bounce").events]
        story = Story(row, "bounce")
        self.check_steps(story, events[:6])
        self.check_refused(story, TooMany, frac(events[6][0]))

    def test_two_in_one_meeting_by_which_they_would_be_thirteen(self):
        row = light_between() + light_between(1000) + [(1, (2000, 1), (1, 1)), (2, (2001, 1), (0, 1))]
        events = [(moment, [(0 + at, 1 + at), (3 + at, 4 + at)])
                  for moment, [(at, last)] in Course(light_between(), "bounce").events]
        story = Story(row, "bounce")
        self.check_steps(story, [((1, 1), [(6, 7)])] + events[:5])
        self.check_refused(story, TooMany, frac(events[5][0]))

    def test_counted_anew_behind_each_change(self):
        whole = Course(light_between(), "bounce", [(Fraction(10), (0, (5, 1))), (Fraction(10), (2, (-5, 1)))])
        story = Story(light_between(), "bounce")
        story.to((10, 1))
        self.assertEqual(len(story.events()), 9)
        story.push(0, (5, 1))
        story.push(2, (-5, 1))
        self.assertEqual(len(whole.events), 21)
        self.check_steps(story, whole.events)
        self.check_refused(story, TooMany, whole.refusal[0])

    def behind_twelve(self):
        """A moment between the twelfth exchange and the one that is refused, and the story there."""
        course = Course(light_between(), "bounce")
        middle = (frac(course.events[-1][0]) + course.refusal[0]) / 2
        story = Story(light_between(), "bounce")
        story.to(told(middle))
        return course, middle, story

    def test_counted_anew_behind_a_turn_and_a_turn_back(self):
        course, middle, story = self.behind_twelve()
        story.turn()
        story.turn()
        later = Course(light_between(), "bounce", [(middle, None), (middle, None)])
        self.assertIsNone(later.refusal)
        self.assertEqual(len(later.events), 17)
        self.check_steps(story, later.events)
        self.assertIsNone(story.next())
        story.to((10 ** 30, 1))
        self.assertEqual(story.now()[1], later.state(Fraction(10 ** 30)))

    def test_a_push_to_the_same_speed_counts_anew_too(self):
        course, middle, story = self.behind_twelve()
        story.to((8, 1))
        story.push(1, (0, 1))
        story.to((0, 1))
        self.check_refused(story, TooMany, course.refusal[0])
        story.to(told(middle))
        story.push(1, (1, 1))
        self.assertNotIn(story.next(), (None, course.events[-1]))

    def test_a_dropped_change_counts_no_more(self):
        course, middle, story = self.behind_twelve()
        story.turn()
        story.turn()
        story.next()
        self.assertEqual(len(story.events()), 13)
        story.to((1, 1))
        story.push(1, (0, 1))
        self.check_refused(story, TooMany, course.refusal[0])

    def test_all_small_rows(self):
        kinds = set()
        for row in small_rows(18, 400):
            course = Course(row, "bounce")
            if course.refusal:
                kinds.add(course.refusal[1])
                story = Story(row, "bounce")
                self.check_steps(story, course.events)
                self.check_refused(story, course.refusal[1], course.refusal[0])
                Story(row, "stick").to((10 ** 20, 1))
        self.assertEqual(kinds, {Crowded, TooMany})


class BothTest(Refusals):
    """A crowd that comes to one place at the very moment of a thirteenth exchange of unlike weights.

    It is made by two pushes ahead of the first exchange: at rest before, the outer two go on so that they come to the
    middle one just then.
    """

    def crowded(self, wait):
        """The story with a crowd that meets so long ahead of the thirteenth exchange."""
        moment = Course(light_between(), "bounce").refusal[0]
        row = light_between() + [(3, (400000, 1), (0, 1)), (5, (900000, 1), (0, 1)), (3, (1000000, 1), (0, 1))]
        start = moment - 5 - wait
        story = Story(row, "bounce")
        story.to(told(start))
        story.push(3, (100000, 1))
        story.push(5, (-20000, 1))
        return story, moment

    def test_crowded_is_told(self):
        story, moment = self.crowded(Fraction(0))
        self.check_refused(story, Crowded, moment)

    def test_of_two_meetings_the_first_one_is_told(self):
        story, moment = self.crowded(Fraction(1, 10 ** 9))
        self.check_refused(story, Crowded, moment - Fraction(1, 10 ** 9))
        story, moment = self.crowded(Fraction(-1, 10 ** 9))
        self.check_refused(story, TooMany, moment)


if __name__ == "__main__":
    unittest.main()
