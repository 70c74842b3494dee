"""The ways to one moment agree: stepped, gone back, sought, told at once and judged."""

import random
import unittest
from fractions import Fraction

from beadway.answers import One, Parted, Right, Wrong
from beadway.atonce import bounced_at, ended, last_met, met, stuck_at, together
from beadway.errors import BeadError
from beadway.judging import judged
from beadway.meetings import first_meet
from beadway.story import Story
from beadway.texts import read, written
from tests.helpers import some_rows, told
from tests.own import Course, alike_rows, exchanges, light_between, small_rows, spoiled


def some_moment(source, course):
    """Any moment: at a meeting, just ahead of it or behind it, or elsewhere."""
    moments = [Fraction(*event[0]) for event in course.events] or [Fraction(2)]
    moment = source.choice(moments) + source.choice((0, 0, Fraction(-1, 10 ** 30), Fraction(1, 10 ** 30), 3))
    return told(source.choice((moment, Fraction(source.randint(0, 30), 7), Fraction(10 ** 40))))


def walk(row, kind, seed, steps):
    """A story come to some moment by steps, back and to, and the story after each move."""
    source, course, story = random.Random(seed), Course(row, kind), Story(row, kind)
    for _ in range(steps):
        move = source.choice(("next", "next", "back", "to", "to"))
        try:
            if move == "to":
                story.to(some_moment(source, course))
            elif move == "next":
                story.next()
            else:
                story.back()
        except BeadError:
            pass
        yield story


class AgreeTest(unittest.TestCase):
    def rows(self):
        return small_rows(71, 60) + some_rows(10) + alike_rows(72, 20) + [light_between()]

    def check_judged(self, row, kind, story, at):
        moment, events = story.now()[0], story.events()
        self.assertIs(type(judged(row, kind, moment, events)), Right)
        wrong = spoiled(events)
        for given, fault in wrong[at % len(wrong):][:3]:
            answer = judged(row, kind, moment, given)
            self.assertEqual((type(answer), vars(answer)), (Wrong, {"count": fault}))

    def check_together(self, row, moment, state):
        for first, last, place, speed in state:
            for bead in range(first + 1, last + 1):
                self.assertIs(type(together(row, moment, first, bead)), One)
            for bead in range(first, last + 1):
                for later in range(last + 1, min(last + 3, len(row))):
                    self.assertIs(type(together(row, moment, bead, later)), Parted)

    def test_sticking(self):
        for at, row in enumerate(self.rows()):
            for step, story in enumerate(walk(row, "stick", at, 7)):
                moment, state = story.now()
                self.assertEqual(state, stuck_at(row, moment))
                self.check_judged(row, "stick", story, at + step)
                self.check_together(row, moment, state)

    def test_bouncing(self):
        alike = 0
        for at, row in enumerate(self.rows()):
            for step, story in enumerate(walk(row, "bounce", at, 7)):
                moment, state = story.now()
                self.check_judged(row, "bounce", story, at + step)
                if len({bead[0] for bead in row}) == 1:
                    alike += 1
                    self.assertEqual(state, bounced_at(row, moment))
                    self.assertEqual(met(row, moment), exchanges(story.events()))
        self.assertGreater(alike, 100)

    def test_the_first_and_the_last_meeting(self):
        for row in self.rows():
            story = Story(row, "stick")
            first = story.next()
            self.assertEqual(first, first_meet(row))
            while story.next() is not None:
                pass
            self.assertEqual(ended(row), (story.now()[0], [run[:2] for run in story.now()[1]]))
            if len({bead[0] for bead in row}) == 1:
                story = Story(row, "bounce")
                while story.next() is not None:
                    pass
                self.assertEqual(last_met(row), story.events()[-1][0] if first else None)

    def test_the_row_written_and_read_has_the_same_stories(self):
        for row in self.rows()[::4]:
            again = read(written(row))
            for kind in ("stick", "bounce"):
                for story in walk(row, kind, 3, 4):
                    other = Story(again, kind)
                    other.to(story.now()[0])
                    self.assertEqual((other.now(), other.events()), (story.now(), story.events()))

    def test_a_changed_story_is_its_own(self):
        row = [(1, (0, 1), (1, 1)), (3, (2, 1), (0, 1)), (1, (8, 1), (-1, 1))]
        story = Story(row, "stick")
        story.to((1, 1))
        story.push(2, (1, 1))
        story.to((9, 1))
        self.assertNotEqual(story.now()[1], stuck_at(row, (9, 1)))
        self.assertEqual(stuck_at(row, (9, 1)), [(0, 2, (14, 5), (0, 1))])
        self.assertEqual(vars(judged(row, "stick", (9, 1), story.events())), {"count": 1})


if __name__ == "__main__":
    unittest.main()
