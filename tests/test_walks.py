"""Points 10, 13 and 14 by long walks: stories moved and changed in any turn, beside an own reckoning."""

import random
import unittest
from fractions import Fraction

from beadway.errors import BeadError, Crowded, Together, TooMany
from beadway.story import Story
from tests.helpers import told
from tests.own import Model, light_between, small_rows


def answer_of(call, *given):
    """What a call tells, or the class of its refusal."""
    try:
        return call(*given)
    except BeadError as error:
        return type(error)


def some_moment(source, model):
    """Somewhere near, or at, just ahead of or just behind a meeting."""
    moments = [Fraction(*event[0]) for event in model.course().events] or [Fraction(1)]
    tiny = Fraction(1, 10 ** 20)
    moment = source.choice(moments) + source.choice((0, 0, -tiny, tiny, Fraction(1, 3), 5))
    return told(source.choice((max(moment, Fraction(0)), Fraction(source.randint(0, 40), 4))))


def some_step(source, model, size):
    """A method's name and what is handed in."""
    name = source.choice(("next", "next", "next", "back", "to", "to", "push", "push", "turn"))
    if name == "to":
        return (name, some_moment(source, model))
    if name == "push":
        return (name, source.randrange(size), told(Fraction(source.randint(-4, 4), source.choice((1, 1, 2)))))
    return (name,)


class WalksTest(unittest.TestCase):
    def walk(self, row, kind, seed, seen):
        source = random.Random(seed)
        story, model = Story(row, kind), Model(row, kind)
        path = []
        for _ in range(25):
            name, *given = some_step(source, model, len(row))
            path.append((name, *given))
            told_by_story = answer_of(getattr(story, name), *given)
            self.assertEqual(told_by_story, getattr(model, name)(*given), (row, kind, path))
            self.assertEqual(story.now(), model.now(), (row, kind, path))
            self.assertEqual(story.events(), model.events(), (row, kind, path))
            seen.add((name, told_by_story if isinstance(told_by_story, type) else None))

    def test_walks(self):
        seen = set()
        rows = small_rows(21, 150) + [light_between(), light_between() + light_between(100)]
        for at, row in enumerate(rows):
            self.walk(row, "stick", at, seen)
            self.walk(row, "bounce", 1000 + at, seen)
        for step in (("next", Crowded), ("to", Crowded), ("next", TooMany), ("to", TooMany), ("push", Together),
                     ("turn", Together), ("push", None), ("turn", None), ("back", None)):
            self.assertIn(step, seen)


if __name__ == "__main__":
    unittest.main()
