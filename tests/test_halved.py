import unittest

from cutrow.errors import BadRow
from cutrow.rows import halved
from samples import MOST, no_lists, no_loads, refusal, small_rows


def apart(row, place):
    return abs(sum(row[:place]) - sum(row[place:]))


def halved_by_trying(row):
    return min(range(len(row) + 1), key=lambda place: (apart(row, place), place))


class EvenestParting(unittest.TestCase):
    def test_row_of_none(self):
        self.assertEqual(halved([]), 0)

    def test_one_load_differs_equally_at_both_ends(self):
        self.assertEqual(halved([0]), 0)
        self.assertEqual(halved([1]), 0)
        self.assertEqual(halved([MOST]), 0)

    def test_all_loads_nought(self):
        self.assertEqual(halved([0, 0]), 0)
        self.assertEqual(halved([0] * 7), 0)

    def test_even_parting(self):
        self.assertEqual(halved([1, 1]), 1)
        self.assertEqual(halved([1, 2, 3, 6]), 3)
        self.assertEqual(halved([6, 3, 2, 1]), 1)
        self.assertEqual(halved([MOST, MOST, MOST, MOST]), 2)

    def test_uneven_parting(self):
        self.assertEqual(halved([1, 5]), 1)
        self.assertEqual(halved([5, 1]), 1)
        self.assertEqual(halved([1, 1, 1, 10, 1]), 3)
        self.assertEqual(halved([1, 10, 1, 1, 1]), 2)

    def test_of_partings_that_differ_equally_the_least_place(self):
        self.assertEqual(halved([1, 1, 1]), 1)
        self.assertEqual(halved([2, 0, 0, 2]), 1)
        self.assertEqual(halved([0, 2, 0, 0, 2, 0]), 2)
        self.assertEqual(halved([3, 2, 3]), 1)

    def test_the_end_of_the_row_never_goes_ahead_of_its_beginning(self):
        self.assertEqual(halved([0, 0, 5]), 0)
        self.assertEqual(halved([5, 0, 0]), 0)
        self.assertEqual(halved([0, 5, 0]), 0)

    def test_the_last_place(self):
        self.assertEqual(halved([1, 1, 1, 3]), 3)
        self.assertEqual(halved([1, 1, 1, MOST]), 3)

    def test_small_rows_by_trying_every_place(self):
        for row in small_rows(6, 3):
            self.assertEqual(halved(row), halved_by_trying(row), row)

    def test_row_of_a_million_loads(self):
        self.assertEqual(halved([MOST] * MOST), MOST // 2)
        self.assertEqual(halved([0] * MOST), 0)
        self.assertEqual(halved([1] * (MOST - 1) + [MOST - 1]), MOST - 1)

    def test_the_answer_is_a_whole_number(self):
        for row in ([], [0], [1, 1], [1, 2, 3, 6]):
            self.assertIs(type(halved(row)), int)

    def test_the_row_stays_as_it_was(self):
        for row in ([], [5], [3, 1, 4], [0, MOST, 0]):
            then = list(row)
            halved(row)
            self.assertEqual(row, then)


class WhatIsNoRow(unittest.TestCase):
    def test_another_kind_than_a_list(self):
        for thing in no_lists():
            self.assertIs(refusal(halved, thing), BadRow, type(thing))

    def test_what_is_no_load_wherever_it_stands(self):
        for thing in no_loads():
            for row in ([thing], [thing, 1, 2], [1, thing, 2], [1, 2, thing], [thing, thing]):
                self.assertIs(refusal(halved, row), BadRow, type(thing))

    def test_more_than_a_million_loads(self):
        self.assertIs(refusal(halved, [0] * (MOST + 1)), BadRow)

    def test_a_refused_row_stays_as_it_was(self):
        row = [3, 1, -4]
        self.assertIs(refusal(halved, row), BadRow)
        self.assertEqual(row, [3, 1, -4])


if __name__ == "__main__":
    unittest.main()
