"""Points 9, 11, 12 and 13: sticking and bouncing stories, their states and events, stepped, undone and sought."""

import copy
import unittest
from fractions import Fraction

from beadway.errors import BadKind, BadMoment, BadRow
from beadway.story import Story
from tests.helpers import assert_refused, line, no_moments, some_rows, told, worth
from tests.own import Course, light_between, small_rows

KINDS = ("stick", "bounce")
TINY = Fraction(1, 10 ** 40)
TWO_SPOTS = [(1, (0, 1), (1, 1)), (9, (2, 1), (0, 1)), (5, (3, 1), (0, 1)), (1, (7, 1), (-2, 1))]


def frac(share):
    return Fraction(*share)


def all_events(story):
    """Each event up to the end, as next tells it."""
    events = []
    while (event := story.next()) is not None:
        events.append(event)
    return events


class WholeTest(unittest.TestCase):
    """All events up to the end, and the states at, ahead of and behind each, against an own reckoning."""

    def check_kinds_of_values(self, story):
        told_now = story.now()
        self.assertIs(type(told_now), tuple)
        self.assertEqual(len(told_now), 2)
        moment, state = told_now
        worth(moment)
        self.assertIs(type(state), list)
        for run in state:
            self.assertIs(type(run), tuple)
            self.assertEqual([type(part) for part in run], [int, int, tuple, tuple])
            worth(run[2]), worth(run[3])
        self.assertIs(type(story.events()), list)
        for event in story.events():
            self.assertEqual([type(event), type(event[0]), type(event[1])], [tuple, tuple, list])
            self.assertEqual({type(stretch) for stretch in event[1]}, {tuple})

    def check(self, row, kind):
        course = Course(row, kind)
        story = Story(row, kind)
        self.assertEqual(story.now(), ((0, 1), course.state(Fraction(0))))
        self.assertEqual(story.events(), [])
        for at, event in enumerate(course.events):
            moment = frac(event[0])
            self.assertEqual(story.next(), event)
            self.assertEqual(story.now(), (event[0], course.state(moment)))
            self.assertEqual(story.events(), course.events[:at + 1])
            for near in (moment - TINY, moment + TINY, moment):
                self.assertIsNone(story.to(told(near)))
                self.assertEqual(story.now(), (told(near), course.state(near)))
                self.assertEqual(story.events(), course.events_to(near))
        if course.refusal is None:
            self.assertIsNone(story.next())
            last = story.now()[0]
            story.to(told(frac(last) * 3 + 10 ** 30))
            self.assertEqual(story.now()[1], course.state(frac(last) * 3 + 10 ** 30))
            self.assertEqual(story.events(), course.events)
        self.check_kinds_of_values(story)

    def test_small_rows(self):
        for row in small_rows(13, 150):
            for kind in KINDS:
                self.check(row, kind)

    def test_rows_of_any_size(self):
        for row in some_rows(40):
            for kind in KINDS:
                self.check(row, kind)

    def test_drive_stays_and_places_keep_their_order(self):
        for row in small_rows(14, 60):
            for kind in KINDS:
                story = Story(row, kind)
                drives = set()
                for moment in [frac(event[0]) for event in Course(row, kind).events] + [Fraction(0)]:
                    story.to(told(moment))
                    state = story.now()[1]
                    drives.add(sum(sum(bead[0] for bead in row[run[0]:run[1] + 1]) * frac(run[3]) for run in state))
                    places = [frac(run[2]) for run in state]
                    self.assertEqual(places, sorted(places))
                    beads = [bead for run in state for bead in range(run[0], run[1] + 1)]
                    self.assertEqual(beads, list(range(len(row))))
                self.assertEqual(len(drives), 1)

    def test_alike_beads_go_through_one_another_but_for_their_names(self):
        for row in small_rows(15, 60):
            row = [(5,) + bead[1:] for bead in row]
            story = Story(row, "bounce")
            for moment in [Fraction(at, 3) for at in range(0, 40, 3)] + [Fraction(10 ** 30)]:
                story.to(told(moment))
                ways = sorted((frac(place) + frac(speed) * moment, frac(speed)) for weight, place, speed in row)
                self.assertEqual([(frac(run[2]), frac(run[3])) for run in story.now()[1]], ways)


class StickTest(unittest.TestCase):
    def test_known_story(self):
        row = [(1, (0, 1), (1, 1)), (3, (2, 1), (0, 1)), (1, (8, 1), (-1, 1))]
        story = Story(row, "stick")
        state = [(0, 0, (0, 1), (1, 1)), (1, 1, (2, 1), (0, 1)), (2, 2, (8, 1), (-1, 1))]
        self.assertEqual(story.now(), ((0, 1), state))
        self.assertEqual(story.next(), ((2, 1), [(0, 1)]))
        self.assertEqual(story.now(), ((2, 1), [(0, 1, (2, 1), (1, 4)), (2, 2, (6, 1), (-1, 1))]))
        self.assertEqual(story.next(), ((26, 5), [(0, 2)]))
        self.assertEqual(story.now(), ((26, 5), [(0, 2, (14, 5), (0, 1))]))
        self.assertIsNone(story.next())
        self.assertEqual(story.now()[0], (26, 5))
        self.assertEqual(story.events(), [((2, 1), [(0, 1)]), ((26, 5), [(0, 2)])])

    def test_many_in_one_spot(self):
        story = Story([(1 + at, (at, 1), (-at, 1)) for at in range(10)], "stick")
        self.assertEqual(story.next(), ((1, 1), [(0, 9)]))
        self.assertEqual(story.now(), ((1, 1), [(0, 9, (0, 1), (-6, 1))]))
        self.assertIsNone(story.next())

    def test_clumps_that_meet(self):
        row = [(1, (0, 1), (2, 1)), (1, (1, 1), (1, 1)), (1, (9, 1), (-1, 1)), (1, (10, 1), (-2, 1))]
        story = Story(row, "stick")
        self.assertEqual(story.next(), ((1, 1), [(0, 1), (2, 3)]))
        self.assertEqual(story.now()[1], [(0, 1, (2, 1), (3, 2)), (2, 3, (8, 1), (-3, 2))])
        self.assertEqual(story.next(), ((3, 1), [(0, 3)]))
        self.assertEqual(story.now()[1], [(0, 3, (5, 1), (0, 1))])

    def test_three_of_unlike_weights_stick(self):
        row = [(1, (-2, 1), (1, 1)), (2, (0, 1), (0, 1)), (3, (4, 1), (-2, 1)), (4, (5, 1), (0, 1))]
        story = Story(row, "stick")
        self.assertEqual(story.next(), ((2, 1), [(0, 2)]))
        self.assertEqual(story.now()[1], [(0, 2, (0, 1), (-5, 6)), (3, 3, (5, 1), (0, 1))])


class BounceTest(unittest.TestCase):
    def test_known_story(self):
        row = [(1, (0, 1), (1, 1)), (3, (2, 1), (0, 1))]
        story = Story(row, "bounce")
        self.assertEqual(story.next(), ((2, 1), [(0, 1)]))
        self.assertEqual(story.now(), ((2, 1), [(0, 0, (2, 1), (-1, 2)), (1, 1, (2, 1), (1, 2))]))
        story.to((4, 1))
        self.assertEqual(story.now(), ((4, 1), [(0, 0, (1, 1), (-1, 2)), (1, 1, (3, 1), (1, 2))]))
        self.assertIsNone(story.next())
        self.assertEqual(story.now()[0], (4, 1))

    def test_three_alike_in_one_spot(self):
        row = [(7, (-2, 1), (1, 1)), (7, (0, 1), (0, 1)), (7, (4, 1), (-2, 1))]
        story = Story(row, "bounce")
        self.assertEqual(story.next(), ((2, 1), [(0, 2)]))
        self.assertEqual(story.now()[1], [(0, 0, (0, 1), (-2, 1)), (1, 1, (0, 1), (0, 1)), (2, 2, (0, 1), (1, 1))])
        self.assertIsNone(story.next())

    def test_ten_alike_in_one_spot(self):
        row = [(60, (at, 1), (-at, 1)) for at in range(10)]
        story = Story(row, "bounce")
        self.assertEqual(story.next(), ((1, 1), [(0, 9)]))
        self.assertEqual(story.now()[1], [(at, at, (0, 1), (at - 9, 1)) for at in range(10)])
        story.to((2, 1))
        self.assertEqual(story.now()[1], [(at, at, (at - 9, 1), (at - 9, 1)) for at in range(10)])

    def test_two_spots_at_one_moment_are_one_event(self):
        for kind in KINDS:
            story = Story(TWO_SPOTS, kind)
            self.assertEqual(story.next(), ((2, 1), [(0, 1), (2, 3)]))
            self.assertEqual(story.events(), [((2, 1), [(0, 1), (2, 3)])])
        self.assertEqual(story.now()[1], [(0, 0, (2, 1), (-4, 5)), (1, 1, (2, 1), (1, 5)),
                                          (2, 2, (3, 1), (-2, 3)), (3, 3, (3, 1), (4, 3))])

    def test_three_alike_beside_two_unlike(self):
        row = [(7, (-2, 1), (1, 1)), (7, (0, 1), (0, 1)), (7, (4, 1), (-2, 1)), (1, (8, 1), (1, 1)),
               (3, (10, 1), (0, 1))]
        story = Story(row, "bounce")
        self.assertEqual(story.next(), ((2, 1), [(0, 2), (3, 4)]))
        self.assertEqual([run[3] for run in story.now()[1]], [(-2, 1), (0, 1), (1, 1), (-1, 2), (1, 2)])

    def test_those_at_one_place_behind_a_bounce_are_two(self):
        story = Story([(1, (0, 1), (1, 1)), (1, (2, 1), (0, 1))], "bounce")
        story.next()
        self.assertEqual(story.now()[1], [(0, 0, (2, 1), (0, 1)), (1, 1, (2, 1), (1, 1))])


class MovesTest(unittest.TestCase):
    def test_one_bead_alone(self):
        for kind in KINDS:
            story = Story([(5, (1, 2), (-1, 3))], kind)
            self.assertIsNone(story.next())
            self.assertEqual(story.now(), ((0, 1), [(0, 0, (1, 2), (-1, 3))]))
            self.assertIsNone(story.to((3, 2)))
            self.assertEqual(story.now(), ((3, 2), [(0, 0, (0, 1), (-1, 3))]))
            self.assertIsNone(story.next())
            self.assertEqual(story.now()[0], (3, 2))
            self.assertEqual(story.events(), [])
            self.assertEqual(story.back(), (0, 1))

    def test_back_from_meetings_and_from_between(self):
        row = [(1, (0, 1), (1, 1)), (3, (2, 1), (0, 1)), (1, (8, 1), (-1, 1))]
        story = Story(row, "stick")
        self.assertEqual(story.back(), (0, 1))
        story.to((1, 1))
        self.assertEqual(story.back(), (0, 1))
        story.to((2, 1))
        self.assertEqual(story.back(), (0, 1))
        self.assertEqual(story.now(), ((0, 1), Course(row, "stick").state(Fraction(0))))
        story.to((3, 1))
        self.assertEqual(story.back(), (2, 1))
        self.assertEqual(story.events(), [((2, 1), [(0, 1)])])
        self.assertEqual(story.now()[1][0], (0, 1, (2, 1), (1, 4)))
        story.to((26, 5))
        self.assertEqual(story.back(), (2, 1))
        story.to((10 ** 40, 1))
        self.assertEqual([story.back(), story.back(), story.back(), story.back()], [(26, 5), (2, 1), (0, 1), (0, 1)])
        self.assertEqual(story.events(), [])

    def test_next_from_between(self):
        row = [(1, (0, 1), (1, 1)), (3, (2, 1), (0, 1)), (1, (8, 1), (-1, 1))]
        story = Story(row, "stick")
        for moment in ((2, 1), (3, 1), (26 * 10 ** 30 - 1, 5 * 10 ** 30)):
            story.to(moment)
            self.assertEqual(story.next(), ((26, 5), [(0, 2)]))
        story.to((26 * 10 ** 30 + 1, 5 * 10 ** 30))
        self.assertIsNone(story.next())
        story.to((26, 5))
        self.assertIsNone(story.next())
        story.to((0, 1))
        self.assertEqual(story.next(), ((2, 1), [(0, 1)]))

    def test_all_the_way_back_and_on_again(self):
        for row in small_rows(16, 80):
            for kind in KINDS:
                course = Course(row, kind)
                if course.refusal is None:
                    story = Story(row, kind)
                    self.assertEqual(all_events(story), course.events)
                    for event in course.events[-2::-1]:
                        self.assertEqual(story.back(), event[0])
                        self.assertEqual(story.now(), (event[0], course.state(frac(event[0]))))
                    self.assertEqual(story.back(), (0, 1))
                    self.assertEqual(story.now(), ((0, 1), course.state(Fraction(0))))
                    self.assertEqual(all_events(story), course.events)

    def test_to_is_the_same_by_steps_and_at_once(self):
        for row in small_rows(17, 40):
            for kind in KINDS:
                course = Course(row, kind)
                for moment in (Fraction(1, 2), Fraction(3), Fraction(1, 10 ** 50), Fraction(9)):
                    if not course.refuses(moment):
                        story = Story(row, kind)
                        story.to(told(moment))
                        self.assertEqual(story.now(), (told(moment), course.state(moment)))
                        self.assertEqual(story.events(), course.events_to(moment))

    def test_what_is_no_moment(self):
        for kind in KINDS:
            story = Story(TWO_SPOTS, kind)
            story.to((5, 2))
            before = (story.now(), story.events())
            for bad in no_moments():
                assert_refused(self, BadMoment, story.to, bad)
                self.assertEqual((story.now(), story.events()), before)


class MadeTest(unittest.TestCase):
    def test_kinds(self):
        for bad in ("", "Stick", "STICK", "stick ", "bounces", "b", "stickbounce", b"stick", None, 0, 1, True,
                    ("stick",), ["bounce"], {"stick": 1}):
            assert_refused(self, BadKind, Story, line(2), bad)
        for bad in ([], None, line(11), tuple(line(2))):
            assert_refused(self, BadRow, Story, bad, "stuck")

    def test_methods_stand_in_the_class(self):
        for name in "now events next back to push turn".split():
            self.assertIn(name, vars(Story))


class OwnTest(unittest.TestCase):
    """Point 1: nothing handed in is changed or kept, and what is told is new."""

    def test_a_row_changed_behind_the_making(self):
        for kind in KINDS:
            row = copy.deepcopy(TWO_SPOTS)
            story = Story(row, kind)
            self.assertEqual(row, TWO_SPOTS)
            row[0] = (60, (-9, 1), (-9, 1))
            del row[2:]
            other = Story(TWO_SPOTS, kind)
            for made in (story, other):
                made.to((5, 2))
                made.push(3, (-5, 1))
                made.to((9, 1))
            self.assertEqual((story.now(), story.events()), (other.now(), other.events()))
            self.assertGreater(len(story.events()), 1)

    def test_what_is_told_may_be_spoiled(self):
        for kind in KINDS:
            course = Course(TWO_SPOTS, kind)
            story = Story(TWO_SPOTS, kind)
            story.now()[1].clear()
            story.next()[1].clear()
            story.now()[1][0] = None
            for event in story.events():
                event[1].append((7, 8))
            story.events().clear()
            moment = frac(course.events[0][0])
            self.assertEqual(story.now(), (told(moment), course.state(moment)))
            self.assertEqual(story.events(), course.events[:1])
            story.back()
            self.assertEqual(story.next(), course.events[0])
            story.to((1, 1))
            self.assertEqual(story.now(), ((1, 1), course.state(Fraction(1))))
            story.to((100, 1))
            self.assertEqual(story.now(), ((100, 1), course.state(Fraction(100))))
            self.assertEqual(story.events(), course.events)

    def test_a_spoiled_state_changes_no_push(self):
        story = Story([(1, (0, 1), (1, 1)), (1, (9, 1), (0, 1))], "bounce")
        spoiled = story.now()[1]
        story.push(0, (3, 1))
        spoiled[0] = (0, 0, (5, 1), (5, 1))
        self.assertEqual(story.now()[1], [(0, 0, (0, 1), (3, 1)), (1, 1, (9, 1), (0, 1))])

    def test_two_stories_are_each_their_own(self):
        row = light_between()
        one, other, third = Story(row, "bounce"), Story(row, "bounce"), Story(row, "stick")
        one.to((5, 1))
        one.push(1, (7, 2))
        self.assertEqual(other.now()[0], (0, 1))
        self.assertEqual(other.next(), ((9, 1), [(0, 1)]))
        self.assertEqual(one.events(), [])
        self.assertEqual(third.next(), ((9, 1), [(0, 1)]))
        state = [(0, 0, (5, 1), (1, 1)), (1, 1, (9, 1), (7, 2)), (2, 2, (15, 1), (-1, 1))]
        self.assertEqual(one.now(), ((5, 1), state))
        other.back()
        other.turn()
        self.assertEqual(third.events(), [((9, 1), [(0, 1)])])
        self.assertEqual(third.now()[1][1], (2, 2, (11, 1), (-1, 1)))


if __name__ == "__main__":
    unittest.main()
