"""Points 12 and 20: lists of events judged by the story that they are said to be of."""

import copy
import unittest
from fractions import Fraction

from beadway.answers import Right, Wrong
from beadway.errors import BadEvents, BadKind, BadMoment, BadRow, Crowded, TooMany
from beadway.judging import judged
from beadway.story import Story
from tests.helpers import anything, assert_refused, line, no_events, no_moments, no_wholes, told
from tests.own import Course, alike_rows, light_between, small_rows, spoiled

KINDS = ("stick", "bounce")
GREAT = 10 ** 300 + 1
TINY = Fraction(1, 10 ** 40)
ROW = [(1, (0, 1), (1, 1)), (3, (2, 1), (0, 1)), (1, (8, 1), (-1, 1))]
EVENTS = [((2, 1), [(0, 1)]), ((26, 5), [(0, 2)])]
CROWD = [(1, (-2, 1), (1, 1)), (2, (0, 1), (0, 1)), (1, (4, 1), (-2, 1))]
OTHER = ((7, 3), [(0, 1)])


class JudgedTest(unittest.TestCase):
    def check(self, row, kind, moment, events, fault):
        """Whether it is judged so, by an answer of its class alone that shows it itself, and nothing is changed."""
        before = copy.deepcopy((row, events))
        answer = judged(row, kind, moment, events)
        self.assertIs(type(answer), Right if fault is None else Wrong)
        self.assertEqual(vars(answer), {} if fault is None else {"count": fault})
        if fault is not None:
            self.assertIs(type(answer.count), int)
        self.assertIs(answer.shows(row, kind, moment, events), True)
        self.assertEqual((row, events), before)

    def test_own_events_and_spoiled_ones(self):
        sizes = set()
        for at, row in enumerate(small_rows(41, 50) + alike_rows(42, 10)):
            for kind in KINDS:
                course = Course(row, kind)
                ends = [Fraction(*event[0]) for event in course.events]
                moments = ends[-2:] + [end - TINY for end in ends[-1:]] + [Fraction(0), Fraction(5, 2), Fraction(10 ** 60)]
                for moment in [moment for moment in moments if not course.refuses(moment)]:
                    right = course.events_to(moment)
                    sizes.add(len(right))
                    self.check(row, kind, told(moment), right, None)
                    for events, fault in spoiled(right)[at % 5::5]:
                        self.check(row, kind, told(moment), events, fault)
        self.assertGreater(sizes, {0, 1, 2, 3, 5, 8, 13})

    def test_known_lists(self):
        self.check(ROW, "stick", (9, 1), EVENTS, None)
        self.check(ROW, "stick", (9, 1), [], 0)
        self.check(ROW, "stick", (9, 1), EVENTS[:1], 1)
        self.check(ROW, "stick", (9, 1), EVENTS[1:], 0)
        self.check(ROW, "stick", (9, 1), EVENTS + EVENTS[1:], 2)
        self.check(ROW, "stick", (9, 1), EVENTS[:1] + EVENTS, 1)
        self.check(ROW, "stick", (9, 1), EVENTS[::-1], 0)
        self.check(ROW, "stick", (9, 1), EVENTS[:1] + [((26, 5), [(1, 2)])], 1)
        self.check(ROW, "stick", (9, 1), EVENTS[:1] + [((27, 5), [(0, 2)])], 1)
        self.check(ROW, "stick", (9, 1), EVENTS + [OTHER], 2)
        self.check(ROW, "bounce", (9, 1), EVENTS, 1)
        self.check(ROW[:1], "bounce", (9, 1), [], None)
        self.check(ROW[:1], "stick", (9, 1), EVENTS, 0)

    def test_up_to_the_moment_that_moment_s_too(self):
        self.check(ROW, "stick", (0, 1), [], None)
        self.check(ROW, "stick", (2, 1), EVENTS[:1], None)
        self.check(ROW, "stick", (2, 1), [], 0)
        self.check(ROW, "stick", told(2 - TINY), [], None)
        self.check(ROW, "stick", told(2 - TINY), EVENTS[:1], 0)
        self.check(ROW, "stick", told(Fraction(26, 5) - TINY), EVENTS, 1)
        self.check(ROW, "stick", (26, 5), EVENTS, None)
        self.check(ROW, "stick", (GREAT, 1), EVENTS, None)

    def test_names_of_the_arguments(self):
        self.assertIs(type(judged(row=ROW, kind="stick", moment=(9, 1), events=EVENTS)), Right)

    def test_no_stretches_and_stretches_that_are_none(self):
        for stretches in ([], [(0, 1), (0, 1)], [(1, 0)], [(0, 0)], [(-1, 1)], [(0, 99)], [(GREAT, -GREAT)],
                          [(at, at) for at in range(200)]):
            self.check(ROW, "stick", (9, 1), [((2, 1), stretches)], 0)
            self.check(ROW, "stick", (1, 1), [((0, 1), stretches)], 0)

    def test_stretches_in_the_other_turn_or_in_two_events(self):
        row = [(1, (0, 1), (1, 1)), (9, (2, 1), (0, 1)), (5, (3, 1), (0, 1)), (1, (7, 1), (-2, 1))]
        for kind in KINDS:
            self.check(row, kind, (2, 1), [((2, 1), [(0, 1), (2, 3)])], None)
            self.check(row, kind, (2, 1), [((2, 1), [(2, 3), (0, 1)])], 0)
            self.check(row, kind, (2, 1), [((2, 1), [(0, 1)]), ((2, 1), [(2, 3)])], 0)
            self.check(row, kind, (2, 1), [((2, 1), [(0, 3)])], 0)

    def test_sixty_events_and_sixty_one(self):
        self.check(ROW, "stick", (9, 1), EVENTS * 30, 2)
        self.check(ROW, "stick", (9, 1), EVENTS + [OTHER] * 58, 2)
        self.check(ROW, "bounce", (9, 1), [OTHER] * 60, 0)
        for events in (EVENTS * 30 + EVENTS[:1], EVENTS + [OTHER] * 59, [OTHER] * 61, [OTHER] * 400):
            for kind in KINDS:
                assert_refused(self, BadEvents, judged, ROW, kind, (9, 1), events)

    def test_a_long_story(self):
        row = [(7, (at * at, 1), (-at * at * at, 7) if at % 7 else (-at * at * at // 7, 1)) for at in range(10)]
        course = Course(row, "bounce")
        self.assertGreater(len(course.events), 30)
        last = course.events[-1][0]
        self.check(row, "bounce", last, course.events, None)
        for at in range(len(course.events)):
            self.check(row, "bounce", last, course.events[:at] + course.events[at + 1:], at)
            changed = course.events[:at] + [OTHER] + course.events[at + 1:]
            self.check(row, "bounce", last, changed, at)
            self.check(row, "bounce", course.events[at][0], course.events, at + 1 if course.events[at + 1:] else None)

    def test_a_story_of_more_than_sixty_events(self):
        row = [(60, (69, 1), (713, 1)), (1, (397, 1), (466, 1)), (1, (429, 1), (411, 1)), (1, (467, 1), (291, 1)),
               (1, (475, 1), (265, 1)), (1, (575, 1), (-69, 1)), (1, (881, 1), (-273, 1)), (1, (889, 1), (-800, 1)),
               (1, (957, 1), (-916, 1)), (1, (985, 1), (-972, 1))]
        course = Course(row, "bounce")
        self.assertEqual((len(course.events), course.refusal), (80, None))
        events, last = course.events, course.events[-1][0]
        self.check(row, "bounce", events[59][0], events[:60], None)
        self.check(row, "bounce", events[58][0], events[:60], 59)
        self.check(row, "bounce", events[59][0], events[:59], 59)
        self.check(row, "bounce", last, events[:60], 60)
        self.check(row, "bounce", last, events[:59] + [OTHER], 59)
        assert_refused(self, BadEvents, judged, row, "bounce", events[60][0], events[:61])
        assert_refused(self, BadEvents, judged, row, "bounce", last, events)
        self.assertIs(Right().shows(row, "bounce", last, events), True)

    def test_asked_elsewhere(self):
        answer = judged(ROW, "stick", (9, 1), EVENTS)
        self.assertIs(answer.shows(ROW, "bounce", (9, 1), EVENTS), False)
        self.assertIs(answer.shows(ROW, "stick", (5, 1), EVENTS), False)
        self.assertIs(answer.shows(ROW, "stick", (5, 1), EVENTS[:1]), True)
        answer = judged(ROW, "bounce", (9, 1), EVENTS)
        self.assertIs(answer.shows(ROW, "stick", (9, 1), EVENTS), False)
        self.assertIs(answer.shows(ROW, "stick", (5, 1), EVENTS), True)
        self.assertIs(answer.shows(ROW, "stick", (5, 1), EVENTS[:1]), False)

    def test_each_answer_is_an_own_one(self):
        answer = judged(ROW, "stick", (9, 1), [])
        answer.count = 5
        self.assertEqual(vars(judged(ROW, "stick", (9, 1), [])), {"count": 0})


class RefusedTest(unittest.TestCase):
    def check_refused(self, kind, row, moment):
        """Whether judging is refused from this moment on, whatever is judged, and not ahead of it."""
        story = Story(row, "bounce")
        story.to(told(moment - TINY))
        right = story.events()
        self.assertIs(type(judged(row, "bounce", told(moment - TINY), right)), Right)
        self.assertIs(type(judged(row, "bounce", told(moment - TINY), right + [OTHER])), Wrong)
        for later in (moment, moment + TINY, moment * 2, moment + 10 ** 60):
            for events in (right, [], [OTHER], right + [(told(moment), [(0, 2)])], [OTHER] * 60):
                assert_refused(self, kind, judged, row, "bounce", told(later), events)
            for bad in no_events()[::9]:
                assert_refused(self, BadEvents, judged, row, "bounce", told(later), bad)
            self.assertIs(type(judged(row, "stick", told(later), [])), Wrong)

    def test_crowded(self):
        self.check_refused(Crowded, CROWD, Fraction(2))

    def test_too_many(self):
        row = light_between()
        self.check_refused(TooMany, row, Course(row, "bounce").refusal[0])

    def test_crowded_ahead_of_too_many(self):
        later = [(bead[0], (bead[1][0] + 1000, 1), bead[2]) for bead in CROWD]
        crowded_first = light_between() + later
        self.check_refused(Crowded, crowded_first, Fraction(2))
        row = light_between() + [(bead[0], (bead[1][0] * 100 + 1000, 1), bead[2]) for bead in CROWD]
        self.check_refused(TooMany, row, Course(row, "bounce").refusal[0])
        self.assertIs(Course(row, "bounce").refusal[1], TooMany)

    def test_no_events(self):
        for kind in KINDS:
            for number, bad in enumerate(no_events()):
                with self.subTest(kind=kind, number=number):
                    assert_refused(self, BadEvents, judged, ROW, kind, (9, 1), bad)

    def test_one_bad_event_at_any_place_of_a_long_list(self):
        events = [((at, 1), [(0, 1), (2, 3)]) for at in range(60)]
        self.assertIs(type(judged(ROW, "stick", (9, 1), events)), Wrong)
        bad_events = [((-1, 1), [(0, 1)]), ((2, 2), []), ((True, 1), []), ((1, 1), [(0, True)]), ((1, 1), ((0, 1),)),
                      [(1, 1), [(0, 1)]], ((1, 1), [(0, 1)], 1), ((1, 1), [(0, 1), [2, 3]]), ((1, 1), [(0, 1, 2)]),
                      ((1, 1), None), (1, [(0, 1)]), None]
        for at in range(60):
            for bad in bad_events:
                given = events[:at] + [bad] + events[at + 1:]
                assert_refused(self, BadEvents, judged, ROW, "stick", (9, 1), given)
                given = events[:at] + [bad]
                assert_refused(self, BadEvents, judged, ROW, "bounce", (0, 1), given)

    def test_one_bad_stretch_at_any_place_of_a_long_event(self):
        stretches = [(at, at + 1) for at in range(50)]
        self.assertIs(type(judged(ROW, "stick", (9, 1), [((1, 1), stretches)])), Wrong)
        for at in range(50):
            for bad in ((True, 1), (0, False), (0,), (0, 1, 2), [0, 1], None, ("0", 1), ((0, 1), 1)):
                given = EVENTS + [((9, 1), stretches[:at] + [bad] + stretches[at + 1:])]
                assert_refused(self, BadEvents, judged, ROW, "stick", (9, 1), given)

    def test_in_which_turn(self):
        bad = [((1, 1), None)]
        for row in ([], line(11), None, CROWD[::-1]):
            assert_refused(self, BadRow, judged, row, "other", (-1, 1), bad)
        for kind in no_wholes()[::3]:
            assert_refused(self, BadKind, judged, CROWD, kind, (-1, 1), bad)
        for moment in no_moments()[::3]:
            assert_refused(self, BadMoment, judged, CROWD, "bounce", moment, bad)
            assert_refused(self, BadMoment, judged, CROWD, "bounce", moment, EVENTS)
        for events in anything():
            assert_refused(self, BadEvents, judged, CROWD, "bounce", (9, 1), events)

    def test_a_list_in_itself(self):
        events = []
        events.append(events)
        assert_refused(self, BadEvents, judged, ROW, "stick", (9, 1), events)
        stretches = []
        stretches.append(stretches)
        assert_refused(self, BadEvents, judged, ROW, "stick", (9, 1), [((1, 1), stretches)])


if __name__ == "__main__":
    unittest.main()
