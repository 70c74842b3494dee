"""Points 7, 17 and 20 as far as an answer's own word goes: shows, by the fields as they stand then."""

import copy
import unittest
from fractions import Fraction

from beadway import answers
from beadway.answers import Meet, Never, One, Parted, Right, Wrong
from beadway.story import Story
from tests.helpers import some_rows, told
from tests.own import Course, light_between, own_one, own_parted, small_rows, spoiled

GREAT = 10 ** 300 + 1
MOMENTS = [Fraction(0), Fraction(1, 3), Fraction(1), Fraction(7, 2), Fraction(40), Fraction(10 ** 60),
           Fraction(1, 10 ** 60)]
MEETS = [(3, (0, 1), (2, 1)), (1, (4, 1), (-1, 2)), (2, (5, 1), (-1, 2))]


class ClassesTest(unittest.TestCase):
    def test_straight_under_answer(self):
        for kind in (Meet, Never, One, Parted, Right, Wrong):
            self.assertEqual(kind.__bases__, (answers.Answer,))
            self.assertIn("shows", vars(kind))

    def test_fields(self):
        self.assertEqual(vars(Meet((1, 2))), {"moment": (1, 2)})
        self.assertEqual(vars(Meet(moment=(1, 2))), {"moment": (1, 2)})
        self.assertEqual(vars(Never()), {})
        self.assertEqual(vars(One(1, 2)), {"first": 1, "last": 2})
        self.assertEqual(vars(One(last=1, first=2)), {"first": 2, "last": 1})
        self.assertEqual(vars(Parted(cut=3)), {"cut": 3})
        self.assertEqual(vars(Right()), {})
        self.assertEqual(vars(Wrong(count=4)), {"count": 4})

    def test_any_fields_may_be_made(self):
        self.assertEqual(Meet((-5, 1)).moment, (-5, 1))
        self.assertEqual(Parted(-GREAT).cut, -GREAT)
        self.assertEqual(Wrong(-1).count, -1)
        self.assertEqual((One(9, -9).first, One(9, -9).last), (9, -9))


class MeetTest(unittest.TestCase):
    def test_right_and_wrong_moments(self):
        self.assertIs(Meet((8, 5)).shows(MEETS, 0), True)
        self.assertIs(Meet((8, 5)).shows(row=MEETS, bead=0), True)
        wrong = [(0, 1), (-8, 5), (8, 1), (5, 8), (7, 5), (8 * GREAT + 1, 5 * GREAT), (8 * GREAT - 1, 5 * GREAT),
                 (GREAT, 1), (-GREAT, 1), (1, GREAT), (-1, GREAT)]
        for moment in wrong:
            self.assertIs(Meet(moment).shows(MEETS, 0), False)

    def test_never_faster(self):
        for bead, meets in ((0, True), (1, False)):
            self.assertIs(Never().shows(MEETS, bead), not meets)
        for moment in ((0, 1), (1, 1), (-1, 1), (GREAT, 1)):
            self.assertIs(Meet(moment).shows(MEETS, 1), False)

    def test_a_slower_one_met_below_nought(self):
        row = [(1, (0, 1), (0, 1)), (1, (6, 1), (2, 1))]
        self.assertIs(Meet((-3, 1)).shows(row, 0), False)
        self.assertIs(Never().shows(row, 0), True)

    def test_just_one_of_both_shows(self):
        for row in some_rows(40) + small_rows(9, 60):
            for bead in range(len(row) - 1):
                one, other = row[bead], row[bead + 1]
                closing = Fraction(*one[2]) - Fraction(*other[2])
                self.assertIs(Never().shows(row, bead), closing <= 0)
                if closing:
                    moment = (Fraction(*other[1]) - Fraction(*one[1])) / closing
                    self.assertIs(Meet(told(moment)).shows(row, bead), closing > 0)
                    self.assertIs(Meet(told(moment + 1)).shows(row, bead), False)

    def test_fields_changed_behind(self):
        answer = Meet((8, 5))
        answer.moment = (9, 5)
        self.assertIs(answer.shows(MEETS, 0), False)
        answer.moment = (8, 5)
        self.assertIs(answer.shows(MEETS, 0), True)
        other = Meet((9, 5))
        other.moment = (8, 5)
        self.assertIs(other.shows(MEETS, 0), True)

    def test_rows_changed_behind(self):
        row = list(MEETS)
        answer = Meet((8, 5))
        self.assertIs(answer.shows(row, 0), True)
        row[1] = (1, (5, 2), (-1, 2))
        self.assertIs(answer.shows(row, 0), False)
        self.assertIs(Meet((1, 1)).shows(row, 0), True)

    def test_no_share_shows_nothing(self):
        row = [(1, (0, 1), (1, 1)), (1, (1, 1), (0, 1))]
        for moment in ((2, 2), (True, 1), (1, True), [1, 1], 1, None, True, "1/1"):
            self.assertIs(Meet(moment).shows(row, 0), False)


class OneTest(unittest.TestCase):
    def test_all_stretches_of_small_rows(self):
        seen = set()
        for row in small_rows(10, 40) + some_rows(6):
            for moment in MOMENTS:
                self.check_row(row, moment, seen)
        self.assertEqual(seen, {(1, True), (1, False), (2, True), (2, False)})

    def check_row(self, row, moment, seen):
        beads = range(-1, len(row) + 1)
        ones = {(first, last): One(first, last) for first in beads for last in beads}
        pairs = [(one, other) for other in range(len(row)) for one in range(other)][:12]
        for one, other in pairs:
            for (first, last), answer in ones.items():
                right = own_one(row, moment, one, other, first, last)
                seen.add((1, right))
                self.assertIs(answer.shows(row, told(moment), one, other), right)
            for cut in beads:
                right = own_parted(row, moment, one, other, cut)
                seen.add((2, right))
                self.assertIs(Parted(cut).shows(row, told(moment), one, other), right)

    def test_they_say_what_the_sticking_story_says(self):
        for row in small_rows(11, 60):
            course = Course(row, "stick")
            for moment in [Fraction(*event[0]) for event in course.events] + MOMENTS:
                runs = course.state(moment)
                for first, last, place, speed in runs:
                    for one in range(first, last):
                        self.assertIs(One(first, last).shows(row, told(moment), one, one + 1), True)
                        self.assertIs(Parted(one).shows(row, told(moment), one, one + 1), False)
                    if last + 1 < len(row):
                        self.assertIs(Parted(last).shows(row, told(moment), first, last + 1), True)
                        self.assertIs(One(first, last + 1).shows(row, told(moment), last, last + 1), False)

    def test_beyond_the_row_and_exchanged(self):
        row = [(1, (0, 1), (1, 1)), (1, (2, 1), (-1, 1)), (1, (9, 1), (0, 1)), (1, (11, 1), (5, 1))]
        moment = (2, 1)
        self.assertIs(One(0, 1).shows(row, moment, 0, 1), True)
        self.assertIs(One(first=0, last=1).shows(row=row, moment=moment, one=0, other=1), True)
        for first, last in ((1, 0), (0, 0), (1, 1), (-1, 1), (-4, 1), (-4, -3), (0, 4), (0, -3), (0, GREAT),
                            (-GREAT, 1), (0, 2), (0, 3), (2, 3), (GREAT, -GREAT)):
            self.assertIs(One(first, last).shows(row, moment, 0, 1), False)
        self.assertIs(Parted(1).shows(row, moment, 1, 2), True)
        self.assertIs(Parted(1).shows(row, moment, 0, 3), True)
        self.assertIs(Parted(2).shows(row, moment, 0, 3), True)
        for cut in (0, 3, 4, -1, -2, -3, GREAT, -GREAT):
            self.assertIs(Parted(cut).shows(row, moment, 0, 3), False)
        self.assertIs(Parted(2).shows(row, moment, 0, 2), False)
        self.assertIs(Parted(1).shows(row, moment, 2, 3), False)

    def test_at_one_place_is_one(self):
        row = [(1, (0, 1), (1, 1)), (60, (2, 1), (0, 1))]
        self.assertIs(One(0, 1).shows(row, (2, 1), 0, 1), True)
        self.assertIs(Parted(0).shows(row, (2, 1), 0, 1), False)
        self.assertIs(One(0, 1).shows(row, (2 * GREAT - 1, GREAT), 0, 1), False)
        self.assertIs(Parted(0).shows(row, (2 * GREAT - 1, GREAT), 0, 1), True)

    def test_each_stretch_is_asked_not_only_the_neighbours(self):
        # The heavy one behind the light one has come too near, though the light one alone hasn't.
        row = [(60, (0, 1), (10, 1)), (1, (1, 1), (-10, 1)), (1, (3, 1), (0, 1))]
        self.assertIs(Parted(1).shows(row, (1, 10), 1, 2), True)
        self.assertIs(Parted(1).shows(row, (1, 2), 1, 2), False)
        self.assertIs(One(0, 2).shows(row, (1, 2), 1, 2), True)
        self.assertIs(One(1, 2).shows(row, (1, 2), 1, 2), False)

    def test_fields_changed_behind(self):
        row = [(1, (0, 1), (1, 1)), (1, (2, 1), (-1, 1)), (1, (9, 1), (0, 1))]
        answer = One(0, 2)
        self.assertIs(answer.shows(row, (2, 1), 0, 1), False)
        answer.last = 1
        self.assertIs(answer.shows(row, (2, 1), 0, 1), True)
        answer.first = 1
        self.assertIs(answer.shows(row, (2, 1), 0, 1), False)
        other = Parted(0)
        self.assertIs(other.shows(row, (2, 1), 0, 2), False)
        other.cut = 1
        self.assertIs(other.shows(row, (2, 1), 0, 2), True)

    def test_no_whole_number_shows_nothing(self):
        row = [(1, (0, 1), (1, 1)), (1, (2, 1), (-1, 1)), (1, (9, 1), (0, 1))]
        for bad in (None, "0", (0, 1), [], True, False):
            self.assertIs(One(bad, 1).shows(row, (2, 1), 0, 1), False)
            self.assertIs(One(0, bad).shows(row, (2, 1), 0, 1), False)
            self.assertIs(Parted(bad).shows(row, (2, 1), 0, 2), False)


class JudgedTest(unittest.TestCase):
    def check(self, row, kind, moment, events, fault):
        """Whether just the right one of all answers shows."""
        before = copy.deepcopy((row, events))
        self.assertIs(Right().shows(row, kind, moment, events), fault is None)
        right = 0 if fault is None else fault
        for count in sorted({-1, 0, right - 1, right, right + 1, len(events), GREAT, -GREAT}):
            self.assertIs(Wrong(count).shows(row, kind, moment, events), count == fault)
        self.assertEqual((row, events), before)

    def test_small_rows(self):
        sizes = set()
        for at, row in enumerate(small_rows(12, 50)):
            for kind in ("stick", "bounce"):
                course = Course(row, kind)
                moments = [Fraction(*event[0]) for event in course.events[:4]]
                moments += [Fraction(0), Fraction(5, 2), Fraction(99)]
                for moment in [moment for moment in moments if not course.refuses(moment)]:
                    right = course.events_to(moment)
                    sizes.add(len(right))
                    self.check(row, kind, told(moment), right, None)
                    for events, fault in spoiled(right)[at % 4::4]:
                        self.check(row, kind, told(moment), events, fault)
        self.assertGreater(sizes, {0, 1, 2, 3, 5, 8})

    def test_up_to_the_moment_that_moment_s_too(self):
        row = [(1, (0, 1), (1, 1)), (3, (2, 1), (0, 1)), (1, (8, 1), (-1, 1))]
        events = [((2, 1), [(0, 1)]), ((26, 5), [(0, 2)])]
        self.check(row, "stick", (0, 1), [], None)
        self.check(row, "stick", (2, 1), events[:1], None)
        self.check(row, "stick", (2 * GREAT - 1, GREAT), [], None)
        self.check(row, "stick", (2 * GREAT - 1, GREAT), events[:1], 0)
        self.check(row, "stick", (26, 5), events, None)
        self.check(row, "stick", (5, 1), events, 1)
        self.check(row, "stick", (GREAT, 1), events, None)
        self.check(row, "bounce", (2, 1), events[:1], None)
        self.check(row, "bounce", (26, 5), events, 1)

    def test_stretches_in_the_other_turn(self):
        row = [(1, (0, 1), (1, 1)), (9, (2, 1), (0, 1)), (5, (3, 1), (0, 1)), (1, (7, 1), (-2, 1))]
        for kind in ("stick", "bounce"):
            self.check(row, kind, (2, 1), [((2, 1), [(0, 1), (2, 3)])], None)
            self.check(row, kind, (2, 1), [((2, 1), [(2, 3), (0, 1)])], 0)
            self.check(row, kind, (2, 1), [((2, 1), [(0, 1)]), ((2, 1), [(2, 3)])], 0)
            self.check(row, kind, (2, 1), [((2, 1), [(0, 3)])], 0)

    def test_up_to_a_refused_moment(self):
        row = light_between()
        story = Story(row, "bounce")
        for _ in range(12):
            story.next()
        self.check(row, "bounce", story.now()[0], story.events(), None)
        self.check(row, "bounce", story.now()[0], story.events()[:-1], 11)
        self.check(row, "bounce", (10, 1), story.events(), 9)

    def test_fields_changed_behind(self):
        row = [(1, (0, 1), (1, 1)), (3, (2, 1), (0, 1))]
        answer = Wrong(1)
        self.assertIs(answer.shows(row, "stick", (9, 1), []), False)
        answer.count = 0
        self.assertIs(answer.shows(row, "stick", (9, 1), []), True)
        self.assertIs(answer.shows(row=row, kind="stick", moment=(9, 1), events=[]), True)
        answer.count = False
        self.assertIs(answer.shows(row, "stick", (9, 1), []), False)
        answer.count = None
        self.assertIs(answer.shows(row, "stick", (1, 1), []), False)


if __name__ == "__main__":
    unittest.main()
