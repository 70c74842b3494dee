"""Point 1 at each door: what is refused, in which turn, and that nothing handed in is changed or kept."""

import copy
import inspect
import itertools
import unittest

from beadway.answers import Answer
from beadway.atonce import bounced_at, ended, last_met, met, stuck_at, together
from beadway.errors import BadBead, BadEvents, BadKind, BadMoment, BadRow, BadShare, BadText, BadWeight
from beadway.judging import judged
from beadway.knocks import bounced, stuck
from beadway.meetings import first_meet, pair_meets
from beadway.rows import drive_of, middle, straight, weight_of
from beadway.shares import minus, order, over, plus, share, times
from beadway.story import Story
from beadway.texts import read, written
from beadway.turning import carried, mirrored, slowed
from tests import helpers

ROW = helpers.line(4)
ALIKE = [(5,) + bead[1:] for bead in ROW]
MOMENT = (7, 2)


def no_weight_lists():
    """What is no list of two weights."""
    lists = [[bad, 1] for bad in helpers.no_weights()] + [[1, bad] for bad in helpers.no_weights()]
    return helpers.anything() + lists + [[], [1], [1, 1, 1], (1, 1), 1, ((1, 1),), [(1, 1)]]


def no_speed_lists():
    """What is no list of two, whatever stands in it."""
    return helpers.anything() + [[], [(1, 1)], [(1, 1)] * 3, ((1, 1), (1, 1)), (1, 1), 1, {0: (1, 1), 1: (1, 1)}]


def speed_lists_with_none():
    shares = helpers.no_shares()
    return [[bad, (1, 1)] for bad in shares] + [[(1, 1), bad] for bad in shares]


def two_shares():
    return [(BadShare, helpers.no_shares()), (BadShare, helpers.no_shares())]


def row_and_stretch():
    return [(BadRow, helpers.no_rows()), (BadBead, helpers.no_bead_of(ROW)), (BadBead, helpers.no_bead_of(ROW))]


def no_kinds():
    words = ["Stick", "BOUNCE", "stick ", "bounces", b"stick", b"bounce"]
    return helpers.no_wholes() + words + [("stick",), ["bounce"], 0, 1]


def plain(value):
    """What can be compared of what is told."""
    if isinstance(value, Answer):
        return (type(value), vars(value))
    if isinstance(value, Story):
        return (value.now(), value.events())
    return value


def doors():
    """Each door: its arguments' names, good ones, and for each the refusal and what is refused."""
    moments = (BadMoment, helpers.no_moments())
    weights = (BadWeight, helpers.no_weights())
    return [
        (share, "top bottom", (6, 4), [(BadShare, helpers.no_wholes()), (BadShare, helpers.no_wholes() + [0])]),
        (plus, "one other", ((1, 2), (1, 3)), two_shares()),
        (minus, "one other", ((1, 2), (1, 3)), two_shares()),
        (times, "one other", ((1, 2), (1, 3)), two_shares()),
        (over, "one other", ((1, 2), (1, 3)), two_shares()),
        (order, "one other", ((1, 2), (1, 3)), two_shares()),
        (weight_of, "row first last", (ROW, 1, 2), row_and_stretch()),
        (drive_of, "row first last", (ROW, 1, 2), row_and_stretch()),
        (straight, "row bead moment", (ROW, 1, MOMENT), row_and_stretch()[:2] + [moments]),
        (middle, "row first last moment", (ROW, 1, 2, MOMENT), row_and_stretch() + [moments]),
        (bounced, "weight other one two", (1, 60, (1, 2), (-1, 3)), [weights, weights] + two_shares()),
        (stuck, "weights speeds", ([1, 60], [(1, 2), (-1, 3)]),
         [(BadWeight, no_weight_lists()), (BadShare, speed_lists_with_none())]),
        (pair_meets, "row bead", (ROW, 1), [(BadRow, helpers.no_rows()), (BadBead, helpers.no_bead_of(ROW) + [3])]),
        (first_meet, "row", (ROW,), [(BadRow, helpers.no_rows())]),
        (Story, "row kind", (ROW, "stick"), [(BadRow, helpers.no_rows()), (BadKind, no_kinds())]),
        (Story(ROW, "stick").to, "moment", (MOMENT,), [moments]),
        (Story(ROW, "bounce").to, "moment", (MOMENT,), [moments]),
        (Story(ROW, "bounce").push, "bead speed", (1, (1, 2)),
         [(BadBead, helpers.no_bead_of(ROW)), (BadShare, helpers.no_row_shares())]),
    ] + later_doors()


def later_doors():
    """The doors of points 16 to 22."""
    rows = (BadRow, helpers.no_rows())
    moments = (BadMoment, helpers.no_moments())
    return [
        (stuck_at, "row moment", (ROW, MOMENT), [rows, moments]),
        (together, "row moment one other", (ROW, MOMENT, 1, 2),
         [rows, moments, (BadBead, helpers.no_bead_of(ROW) + [2, 3]), (BadBead, helpers.no_bead_of(ROW) + [0, 1])]),
        (ended, "row", (ROW,), [rows]),
        (bounced_at, "row moment", (ALIKE, MOMENT), [rows, moments]),
        (met, "row moment", (ALIKE, MOMENT), [rows, moments]),
        (last_met, "row", (ALIKE,), [rows]),
        (judged, "row kind moment events", (ROW, "stick", MOMENT, [((1, 1), [(0, 1)])]),
         [rows, (BadKind, no_kinds()), moments, (BadEvents, helpers.no_events())]),
        (mirrored, "row", (ROW,), [rows]),
        (carried, "row speed", (ROW, (1, 7)), [rows, (BadShare, helpers.no_shares())]),
        (slowed, "row share", (ROW, (1, 7)), [rows, (BadShare, helpers.no_shares() + [(0, 1), (-1, 7)])]),
        (written, "row", (ROW,), [rows]),
        (read, "text", ("1 0/1 0/1",), [(BadText, helpers.no_texts())]),
    ]


def with_wrong(good, at, bad):
    given = list(good)
    given[at] = bad
    return given


class DoorsTest(unittest.TestCase):
    def test_names_of_the_arguments(self):
        for call, names, good, wrong in doors():
            with self.subTest(call.__name__):
                self.assertEqual(" ".join(inspect.signature(call).parameters), names)
                self.assertEqual(plain(call(**dict(zip(names.split(), good)))), plain(call(*good)))

    def test_one_wrong_thing(self):
        for call, names, good, wrong in doors():
            for at, (kind, values) in enumerate(wrong):
                for number, bad in enumerate(values):
                    with self.subTest(call.__name__, at=at, number=number):
                        helpers.assert_refused(self, kind, call, *with_wrong(good, at, bad))

    def test_of_two_wrong_things_the_one_named_first(self):
        for call, names, good, wrong in doors():
            for early, late in itertools.combinations(range(len(wrong)), 2):
                pairs = itertools.product(wrong[early][1][::5], wrong[late][1][::7])
                for number, (bad, worse) in enumerate(pairs):
                    given = with_wrong(with_wrong(good, early, bad), late, worse)
                    with self.subTest(call.__name__, early=early, late=late, number=number):
                        helpers.assert_refused(self, wrong[early][0], call, *given)

    def test_no_stretch_ahead_of_no_moment(self):
        for bad in helpers.no_moments():
            helpers.assert_refused(self, BadBead, middle, ROW, 2, 1, bad)
            helpers.assert_refused(self, BadBead, straight, ROW, 4, bad)

    def test_no_row_ahead_of_no_stretch(self):
        for row in ([], helpers.line(11), None):
            for call in (weight_of, drive_of):
                helpers.assert_refused(self, BadRow, call, row, 2, 1)
            helpers.assert_refused(self, BadRow, middle, row, 2, 1, (-1, 1))

    def test_one_bad_bead_at_any_place_of_a_long_row(self):
        for call, names, good, wrong in doors():
            if names.startswith("row"):
                for at, bad in itertools.product(range(10), helpers.no_beads()[::6]):
                    row = helpers.line(10)
                    row[at] = bad
                    helpers.assert_refused(self, BadRow, call, row, *good[1:])

    def test_everything_wrong_at_once(self):
        for call, names, good, wrong in doors():
            for bad in (None, True, "x", helpers.Thorny(), {}):
                helpers.assert_refused(self, wrong[0][0], call, *[bad] * len(good))

    def test_speeds_that_are_no_list_of_as_many(self):
        for bad in no_speed_lists():
            helpers.assert_refused(self, BadWeight, stuck, [1, 60], bad)

    def test_nothing_handed_in_is_changed(self):
        for call, names, good, wrong in doors():
            given = copy.deepcopy(good)
            first = plain(call(*given))
            self.assertEqual(given, good)
            self.assertEqual(plain(call(*given)), first)

    def test_nothing_handed_in_is_changed_by_a_refusal(self):
        for call, given in ((weight_of, [helpers.line(11), 0, 0]), (middle, [helpers.line(3), 2, 1, (1, 1)]),
                            (straight, [helpers.line(3), 1, (-1, 1)]), (stuck, [[1, 2], [(1, 1), (2, 4)]]),
                            (drive_of, [[(1, [0, 1], (0, 1))], 0, 0]), (plus, [[1, 2], (1, 2)])):
            before = copy.deepcopy(given)
            with self.assertRaises(ValueError):
                call(*given)
            self.assertEqual(given, before)

    def test_nothing_handed_in_is_kept(self):
        row = helpers.line(3)
        before = [weight_of(row, 0, 1), drive_of(row, 0, 1), middle(row, 0, 1, MOMENT), straight(row, 0, MOMENT)]
        kept = copy.deepcopy(before)
        row[0] = (60, (-5, 1), (9, 1))
        after = [weight_of(row, 0, 1), drive_of(row, 0, 1), middle(row, 0, 1, MOMENT), straight(row, 0, MOMENT)]
        self.assertEqual(before, kept)
        for old, new in zip(before, after):
            self.assertNotEqual(old, new)
        weights, speeds = [1, 2], [(1, 1), (4, 1)]
        self.assertEqual(stuck(weights, speeds), (3, 1))
        weights[0], speeds[1] = 2, (5, 1)
        self.assertEqual(stuck(weights, speeds), (3, 1))
        speeds[0] = (0, 1)
        self.assertEqual(stuck(weights, speeds), (5, 2))


if __name__ == "__main__":
    unittest.main()
