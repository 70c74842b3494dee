"""Point 1 over the whole program: what kinds of values are told, that they are new, and that nothing is kept."""

import copy
import unittest

from beadway.answers import Answer, Meet, Never, One, Parted, Right, Wrong
from beadway.atonce import bounced_at, ended, last_met, met, stuck_at, together
from beadway.judging import judged
from beadway.knocks import bounced, stuck
from beadway.meetings import first_meet, pair_meets
from beadway.rows import drive_of, middle, straight, weight_of
from beadway.shares import minus, order, over, plus, share, times
from beadway.story import Story
from beadway.texts import read, written
from beadway.turning import carried, mirrored, slowed
from tests.helpers import line, some_rows
from tests.own import alike_rows, small_rows

SHARE = (int, int)
STRETCHES = [(int, int)]
STATE = [(int, int, SHARE, SHARE)]
EVENT = (SHARE, STRETCHES)
ROW = [(int, SHARE, SHARE)]
SOME = [(1, (0, 1), (1, 1)), (3, (2, 1), (0, 1)), (1, (8, 1), (-1, 1))]
ALIKE = [(4, (0, 1), (2, 1)), (4, (1, 1), (1, 1)), (4, (4, 1), (-2, 1))]
EVENTS = [((2, 1), [(0, 1)]), ((26, 5), [(0, 2)])]


def fits(value, pattern):
    """Whether a value is just of these kinds, leaf by leaf."""
    if isinstance(pattern, tuple):
        return type(value) is tuple and len(value) == len(pattern) and all(map(fits, value, pattern))
    if isinstance(pattern, list):
        return type(value) is list and all(fits(part, pattern[0]) for part in value)
    return value is None if pattern is None else type(value) is pattern


def fields(answer):
    return (type(answer), vars(answer))


def row_doors(row, moment):
    """Each call of a row alone, or of a row and a moment and its first beads, with the kinds of what it tells."""
    last = len(row) - 1
    calls = [
        (weight_of, (row, 0, last), int), (drive_of, (row, 0, last), SHARE), (straight, (row, 0, moment), SHARE),
        (middle, (row, 0, last, moment), SHARE), (first_meet, (row,), EVENT), (stuck_at, (row, moment), STATE),
        (ended, (row,), EVENT), (mirrored, (row,), ROW), (carried, (row, (0, 1)), ROW), (slowed, (row, (1, 1)), ROW),
        (written, (row,), str),
    ]
    if len({bead[0] for bead in row}) == 1:
        calls += [(bounced_at, (row, moment), STATE), (met, (row, moment), int), (last_met, (row,), SHARE)]
    return calls


def answer_doors(row, events, moment=(9, 1)):
    return [(pair_meets, (row, 0)), (together, (row, moment, 0, 1)), (together, (row, moment, 0, len(row) - 1)),
            (judged, (row, "stick", moment, events)), (judged, (row, "stick", moment, events[:1]))]


class KindsTest(unittest.TestCase):
    def test_of_rows(self):
        for row in small_rows(81, 40) + some_rows(10) + alike_rows(82, 20) + [line(10)]:
            for moment in ((0, 1), (5, 3), (10 ** 40, 1)):
                for call, given, pattern in row_doors(row, moment):
                    answer = call(*given)
                    if call in (first_meet, last_met) and answer is None:
                        continue
                    self.assertTrue(fits(answer, pattern), (call.__name__, given, answer))
            self.assertTrue(fits(read(written(row)), ROW))

    def test_of_shares_and_knocks(self):
        for one, other in (((1, 2), (1, 2)), ((-3, 1), (7, 5)), ((0, 1), (10 ** 40, 3))):
            for call in (plus, minus, times, over):
                self.assertTrue(fits(call(one, other), SHARE))
            self.assertTrue(fits(order(one, other), int))
            self.assertTrue(fits(share(one[0], other[0]), SHARE))
            self.assertTrue(fits(bounced(3, 60, one, other), (SHARE, SHARE)))
            self.assertTrue(fits(stuck([3, 60], [one, other]), SHARE))

    def test_of_stories(self):
        for row in small_rows(83, 30):
            story = Story(row, "stick")
            for _ in range(4):
                event = story.next()
                self.assertTrue(event is None or fits(event, EVENT))
                self.assertTrue(fits(story.now(), (SHARE, STATE)))
                self.assertTrue(fits(story.events(), [EVENT]))
            self.assertTrue(fits(story.back(), SHARE))
            for answer in (story.to((1, 2)), story.push(0, (1, 2)), story.turn()):
                self.assertIsNone(answer)

    def test_of_answers(self):
        kinds = {Meet: {"moment": SHARE}, Never: {}, One: {"first": int, "last": int}, Parted: {"cut": int},
                 Right: {}, Wrong: {"count": int}}
        seen = set()
        for row in small_rows(84, 60) + [SOME]:
            if len(row) > 1:
                for call, given in answer_doors(row, EVENTS) + answer_doors(row, [], (0, 1)):
                    answer = call(*given)
                    seen.add(type(answer))
                    self.assertEqual(set(vars(answer)), set(kinds[type(answer)]))
                    for name, pattern in kinds[type(answer)].items():
                        self.assertTrue(fits(getattr(answer, name), pattern))
        self.assertEqual(seen, set(kinds))

    def test_truths(self):
        for call, given in answer_doors(SOME, EVENTS):
            answer = call(*given)
            self.assertIs(answer.shows(*given), True)
            self.assertIsInstance(answer, Answer)


def spoil(value):
    """Change each list in place, and those within it."""
    if isinstance(value, (list, tuple)):
        for part in value:
            spoil(part)
    if isinstance(value, list):
        value.reverse()
        value.append("spoiled")
        value.insert(0, None)


class NewTest(unittest.TestCase):
    def check_new(self, call, *given):
        """Whether what is told, spoiled, changes nothing that was handed in or is told later."""
        before = copy.deepcopy(given)
        first = call(*given)
        kept = copy.deepcopy(first)
        spoil(first)
        self.assertEqual(given, before)
        second = call(*given)
        self.assertEqual(second, kept)
        if isinstance(second, list):
            self.assertIsNot(second, first)

    def test_of_rows(self):
        for row in (SOME, ALIKE, line(10), line(1), [(7, (0, 1), (0, 1))]):
            for call, given, pattern in row_doors(row, (5, 1)):
                self.check_new(call, *given)
        self.check_new(read, "1 0/1 0/1, 1 1/1 -1/2")
        self.check_new(stuck, [1, 2], [(1, 1), (0, 1)])

    def test_of_stories(self):
        for kind in ("stick", "bounce"):
            for row in (SOME, ALIKE):
                story, quiet = Story(row, kind), Story(row, kind)
                for name in ("now", "next", "events", "now", "next", "events", "now", "back", "events", "now", "next"):
                    answer = getattr(story, name)()
                    self.assertEqual(answer, getattr(quiet, name)())
                    spoil(answer)
                    self.assertEqual((story.now(), story.events()), (quiet.now(), quiet.events()))
                for one in (story, quiet):
                    one.to((1, 3))
                    one.turn()
                spoil(story.now()), spoil(story.events())
                self.assertEqual((story.now(), story.events()), (quiet.now(), quiet.events()))

    def test_two_stories_of_one_row(self):
        row = list(SOME)
        one, other = Story(row, "stick"), Story(row, "stick")
        one.next()
        one.push(0, (-5, 1))
        self.assertEqual(other.now(), ((0, 1), [(at, at, bead[1], bead[2]) for at, bead in enumerate(SOME)]))
        self.assertEqual(other.next(), ((2, 1), [(0, 1)]))

    def test_of_answers(self):
        for call, given in answer_doors(SOME, EVENTS):
            answer = call(*given)
            kept = copy.deepcopy(fields(answer))
            for name in list(vars(answer)):
                setattr(answer, name, None)
            self.assertEqual(fields(call(*given)), kept)


class KeptTest(unittest.TestCase):
    """Lists that are changed in place behind a call, and back again, are answered as they are then."""

    def check_changed(self, call, given, at, change, told_as=lambda answer: answer):
        """One argument, a list, is changed in place and back; each time the answer is that of a fresh copy."""
        kept = copy.deepcopy(given[at])
        first = told_as(call(*given))
        change(given[at])
        fresh = copy.deepcopy(given)
        self.assertNotEqual(fresh[at], kept)
        second = told_as(call(*given))
        self.assertEqual(second, told_as(call(*fresh)))
        given[at][:] = kept
        self.assertEqual(told_as(call(*given)), first)
        return first != second

    def spoil_row(self, row):
        row[0] = (row[0][0], (-9, 1), (7, 3))

    def lengthen(self, row):
        row.append((row[0][0], (900, 1), (-50, 1)))

    def make_heavier(self, row):
        row[:] = [(59,) + bead[1:] for bead in row]

    def test_rows(self):
        changed = set()
        changes = (self.spoil_row, self.lengthen, self.make_heavier)
        for change in changes:
            for row in (list(SOME), list(ALIKE), line(3)):
                changed |= {call.__name__ for call, given, pattern in row_doors(row, (40, 1))
                            if self.check_changed(call, given, 0, change)}
        self.assertEqual(changed, {call.__name__ for call, given, pattern in row_doors(ALIKE, (0, 1))})
        for change in changes:
            for call, given in answer_doors(list(SOME), EVENTS):
                self.check_changed(call, given, 0, change, fields)

    def test_weights_and_speeds(self):
        self.assertTrue(self.check_changed(stuck, ([1, 3], [(1, 1), (0, 1)]), 0, lambda weights: weights.reverse()))
        self.assertTrue(self.check_changed(stuck, ([1, 3], [(1, 1), (0, 1)]), 1, lambda speeds: speeds.reverse()))

    def test_events(self):
        def shorten(events):
            events.pop()

        def spoil_stretches(events):
            events[1][1].append((0, 1))

        for change in (shorten, spoil_stretches):
            events = copy.deepcopy(EVENTS)
            self.assertTrue(self.check_changed(judged, (SOME, "stick", (9, 1), events), 3, change, fields))

    def test_a_list_within_the_events(self):
        events = copy.deepcopy(EVENTS)
        answer = judged(SOME, "stick", (9, 1), events)
        events[0][1][0] = (1, 2)
        self.assertEqual(fields(judged(SOME, "stick", (9, 1), events)), (Wrong, {"count": 0}))
        self.assertIs(answer.shows(SOME, "stick", (9, 1), events), False)
        events[0][1][0] = (0, 1)
        self.assertEqual(fields(judged(SOME, "stick", (9, 1), events)), (Right, {}))
        self.assertIs(answer.shows(SOME, "stick", (9, 1), events), True)

    def test_answers_of_rows_changed_behind_them(self):
        row = list(SOME)
        answers = [(call(*given), given) for call, given in answer_doors(row, EVENTS)]
        kept = [copy.deepcopy(fields(answer)) for answer, given in answers]
        row[1] = (3, (7, 1), (40, 1))
        self.assertEqual([fields(answer) for answer, given in answers], kept)
        self.assertEqual([answer.shows(*given) for answer, given in answers][:2], [False, False])
        row[1] = SOME[1]
        self.assertEqual([answer.shows(*given) for answer, given in answers], [True] * 5)

    def test_a_row_changed_behind_its_story(self):
        for kind in ("stick", "bounce"):
            row = list(SOME)
            story, quiet = Story(row, kind), Story(list(SOME), kind)
            self.spoil_row(row)
            self.assertEqual(story.now(), quiet.now())
            self.assertEqual(story.next(), quiet.next())
            row.clear()
            story.to((50, 1)), quiet.to((50, 1))
            self.assertEqual((story.now(), story.events()), (quiet.now(), quiet.events()))
            story.push(2, (-9, 1)), quiet.push(2, (-9, 1))
            self.assertEqual((story.next(), story.now()), (quiet.next(), quiet.now()))
            self.assertEqual(row, [])


if __name__ == "__main__":
    unittest.main()
