"""Point 22: rows written and read, and texts that aren't just so refused."""

import copy
import re
import unittest
from fractions import Fraction

from beadway.errors import BadRow, BadText
from beadway.texts import read, written
from tests.helpers import assert_refused, line, no_rows, no_texts, some_rows, told
from tests.own import light_between, small_rows

ROW = [(3, (0, 1), (2, 1)), (1, (4, 1), (-1, 2)), (60, (9, 2), (-1000000, 59))]
TEXT = "3 0/1 2/1, 1 4/1 -1/2, 60 9/2 -1000000/59"
# Every sign from the blank to the tilde, and some others that texts may have.
SIGNS = "".join(chr(code) for code in range(32, 127)) + "\n\t\r\0\x0b\x0c\x1f"
NUMBER = r"(0|-?[1-9][0-9]*)"
JUST_SO = re.compile(rf"{NUMBER} {NUMBER}/{NUMBER} {NUMBER}/{NUMBER}(, {NUMBER} {NUMBER}/{NUMBER} {NUMBER}/{NUMBER})*")


def own_text(row):
    words = []
    for weight, place, speed in row:
        words.append("%d %d/%d %d/%d" % (weight, *place, *speed))
    return ", ".join(words)


def own_read(text):
    """The row of a text, by its form and what the numbers are worth; None if there is none."""
    if not JUST_SO.fullmatch(text):
        return None
    row = []
    for part in text.split(", "):
        weight, *rest = [int(number) for number in re.findall(r"-?[0-9]+", part)]
        if rest[1] < 1 or rest[3] < 1:
            return None
        place, speed = Fraction(*rest[:2]), Fraction(*rest[2:])
        limits = [abs(share.numerator) <= 1000000 and share.denominator <= 60 for share in (place, speed)]
        if not 1 <= weight <= 60 or not all(limits) or told(place) + told(speed) != tuple(rest):
            return None
        row.append((weight, told(place), told(speed)))
    places = [Fraction(*bead[1]) for bead in row]
    return row if len(row) <= 10 and places == sorted(set(places)) else None


def spoiled_texts(text):
    """The text with one sign left out, put in, changed, or two neighbours exchanged."""
    found = {text[:at] + text[at + 1:] for at in range(len(text))}
    found |= {text[:at] + sign + text[at:] for at in range(len(text) + 1) for sign in SIGNS}
    found |= {text[:at] + sign + text[at + 1:] for at in range(len(text)) for sign in SIGNS}
    found |= {text[:at] + text[at + 1] + text[at] + text[at + 2:] for at in range(len(text) - 1)}
    return sorted(found - {text})


class WrittenTest(unittest.TestCase):
    def test_known_texts(self):
        self.assertEqual(written(ROW), TEXT)
        self.assertEqual(written(row=ROW[:1]), "3 0/1 2/1")
        self.assertEqual(written([(60, (-1000000, 1), (-1, 60))]), "60 -1000000/1 -1/60")
        self.assertIs(type(written(ROW)), str)

    def test_all_rows(self):
        for row in some_rows(60) + small_rows(61, 100) + [line(10), light_between()]:
            before = copy.deepcopy(row)
            text = written(row)
            self.assertEqual(text, own_text(row))
            self.assertLessEqual(len(text), 400)
            again = read(text)
            self.assertEqual(again, row)
            self.assertEqual(written(again), text)
            self.assertEqual(row, before)

    def test_the_longest_row(self):
        row = [(60, (-1000000 + 2 * at, 59), (-1000000, 59)) for at in range(10)]
        self.assertGreater(len(written(row)), 260)
        self.assertEqual(read(written(row)), row)

    def test_no_rows(self):
        for bad in no_rows():
            assert_refused(self, BadRow, written, bad)


class ReadTest(unittest.TestCase):
    def check(self, text):
        """Whether the row is read, or the text refused, as an own reading tells; True if it is a text of a row."""
        right = own_read(text)
        if right is None:
            assert_refused(self, BadText, read, text)
            return False
        row = read(text)
        self.assertEqual(row, right)
        self.assertIs(type(row), list)
        for bead in row:
            self.assertEqual([type(part) for part in bead], [int, tuple, tuple])
            self.assertEqual([type(part) for part in bead[1] + bead[2]], [int] * 4)
        return True

    def test_known_texts(self):
        self.assertEqual(read(TEXT), ROW)
        self.assertEqual(read(text="3 0/1 2/1"), ROW[:1])

    def test_one_sign_otherwise(self):
        texts = [TEXT, "1 0/1 0/1", "60 -1000000/59 1000000/59, 59 7/60 -7/60", written(line(4)), written(light_between())]
        seen = set()
        for text in texts:
            for bad in spoiled_texts(text):
                seen.add(self.check(bad))
        self.assertEqual(seen, {True, False})

    def test_not_just_so(self):
        bad = ["03 0/1 2/1", "3 00/1 2/1", "3 0/01 2/1", "3 0/1 02/1", "3 0/1 2/01", "3 -0/1 2/1", "3 0/1 -0/1", "-3 0/1 2/1",
               "+3 0/1 2/1", "3 +0/1 2/1", "3 0/1 +2/1", "3 0/+1 2/1", "3 0/1 2/-1", "3 0/-1 2/1", "3 0/1 -2/-1",
               "3  0/1 2/1", "3 0/1  2/1", " 3 0/1 2/1", "3 0/1 2/1 ", "3\t0/1 2/1", "3 0/1\n2/1", "3 0/1 2/1\n", "3 0/1 2/1,",
               "3 0/1 2/1, ", "3 0/1 2/1,1 4/1 0/1", "3 0/1 2/1,  1 4/1 0/1", "3 0/1 2/1 , 1 4/1 0/1", "3 0/1 2/1 1 4/1 0/1",
               "3 0/1 2/1; 1 4/1 0/1", "3 0/1 2/1\n1 4/1 0/1", "3 0/1 2/1, , 1 4/1 0/1", ", 3 0/1 2/1", "3 0 /1 2/1", "3 0/ 1 2/1",
               "3 0/1/1 2/1", "3 0//1 2/1", "3 0/1 2", "3 0 2/1", "3/1 0/1 2/1", "3 0/1", "3", "3 0/1 2/1 0/1", "- 0/1 2/1",
               "3 -/1 2/1", "3 0/- 2/1", "3 --1/1 2/1", "3 1-/1 2/1", "3 /1 2/1", "3 0/ 2/1", "3 1_0/1 2/1", "3 0x1/1 2/1",
               "3 1e1/1 2/1", "3 1.0/1 2/1", "(3, (0, 1), (2, 1))", "[3 0/1 2/1]", "3 (0, 1) (2, 1)", "three 0/1 2/1"]
        for text in bad:
            with self.subTest(text):
                self.assertIsNone(own_read(text))
                assert_refused(self, BadText, read, text)

    def test_no_numbers_of_a_row(self):
        for text in ("0 0/1 0/1", "61 0/1 0/1", "1 0/2 0/1", "1 2/2 0/1", "1 2/4 0/1", "1 0/1 6/9", "1 0/1 0/60", "1 1/0 0/1",
                     "1 0/0 0/1", "1 0/1 0/0", "1 1000001/1 0/1", "1 -1000001/1 0/1", "1 1/61 0/1", "1 0/1 1000001/60",
                     "1 0/1 1/61", "1 0/1 -1/3600", "1" + "0" * 300 + " 0/1 0/1", "1 0/1 1/1" + "0" * 300):
            with self.subTest(text):
                self.assertIsNone(own_read(text))
                assert_refused(self, BadText, read, text)

    def test_places_that_don_t_rise(self):
        self.assertEqual(read("1 0/1 0/1, 1 1/60 0/1"), [(1, (0, 1), (0, 1)), (1, (1, 60), (0, 1))])
        for text in ("1 0/1 0/1, 1 0/1 0/1", "1 0/1 0/1, 2 0/1 5/1", "1 1/60 0/1, 1 0/1 0/1", "1 -1/1 0/1, 1 -2/1 0/1",
                     "1 1/2 0/1, 1 1/3 0/1", "1 0/1 0/1, 1 2/1 0/1, 1 1/1 0/1", "1 10/1 0/1, 1 9/1 0/1"):
            assert_refused(self, BadText, read, text)

    def test_ten_beads_and_more(self):
        for size in range(1, 14):
            text = ", ".join(f"1 {at}/1 0/1" for at in range(size))
            self.assertEqual(self.check(text), size <= 10)

    def test_long_texts(self):
        for size in (399, 400, 401, 402, 1000, 4299, 4300, 4301, 5000, 100000):
            for text in ("1" * size, "1 0/1 " + "1" * (size - 8) + "/1", "1 0/1 1/" + "1" * (size - 8), " " * size,
                         "-" * size, "/" * size, ("1 0/1 0/1, " * size)[:size], ", " * (size // 2), "1/" * (size // 2)):
                assert_refused(self, BadText, read, text)
        many = ", ".join(f"60 {at}/1 -1000000/59" for at in range(-1000000, -1000000 + 20))
        self.assertGreater(len(many), 400)
        assert_refused(self, BadText, read, many)

    def test_no_text_at_all(self):
        for number, bad in enumerate(no_texts()):
            with self.subTest(number=number):
                assert_refused(self, BadText, read, bad)

    def test_each_row_is_a_new_one(self):
        first = read(TEXT)
        first[0] = None
        first.clear()
        self.assertEqual(read(TEXT), ROW)


if __name__ == "__main__":
    unittest.main()
