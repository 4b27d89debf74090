import unittest

from cutrow.answers import Most
from cutrow.parts import fullest
from reckon import fullest_by_trying, is_most
from samples import MOST, small_rows


class FullestCase(unittest.TestCase):
    def hold(self, row, bound):
        """Holds what is told against point [5], and gives the count of parts back."""
        told = fullest(row, bound)
        self.assertIs(type(told), Most)
        self.assertTrue(is_most(row, bound, told.cuts, told.places), (row, bound, told.cuts, told.places))
        self.assertIs(told.shows(row, bound), True, (row, bound, told.cuts, told.places))
        return len(told.places)


class OrdinaryRows(FullestCase):
    def test_bound_1(self):
        self.assertEqual(self.hold([3, 1, 4, 1, 5], 1), 5)
        self.assertEqual(self.hold([0, 3, 0, 0, 4, 0], 1), 2)
        self.assertEqual(self.hold([0, 0, 0], 1), 0)

    def test_a_load_as_bound(self):
        self.assertEqual(self.hold([3, 1, 4, 1, 5], 3), 3)
        self.assertEqual(self.hold([3, 1, 4, 1, 5], 4), 3)
        self.assertEqual(self.hold([3, 1, 4, 1, 5], 5), 2)
        self.assertEqual(self.hold([MOST] * 5, MOST), 5)

    def test_all_together_and_one_more(self):
        for row in ([3, 1, 4, 1, 5], [1], [0, 2, 0], [MOST] * 3):
            self.assertEqual(self.hold(row, sum(row)), 1)
            self.assertEqual(self.hold(row, sum(row) + 1), 0)
            self.assertEqual(self.hold(row, 10 ** 40), 0)

    def test_the_rest_goes_to_a_part(self):
        self.assertEqual(self.hold([2, 2, 2, 2, 1], 4), 2)
        self.assertEqual(self.hold([1, 2, 2, 2, 2], 4), 2)


class Edges(FullestCase):
    def test_row_of_none(self):
        for bound in (1, 2, MOST, 10 ** 40):
            told = fullest([], bound)
            self.assertEqual(self.hold([], bound), 0)
            self.assertEqual((told.cuts, told.places), ([], []))

    def test_no_place_no_part_no_cuts(self):
        told = fullest([1, 1, 1], 4)
        self.assertEqual((told.cuts, told.places), ([], []))

    def test_one_part_and_no_cuts(self):
        told = fullest([1, 1, 1], 3)
        self.assertEqual((told.cuts, len(told.places)), ([], 1))

    def test_one_load(self):
        self.assertEqual(self.hold([0], 1), 0)
        self.assertEqual(self.hold([1], 1), 1)
        self.assertEqual(self.hold([1], 2), 0)
        self.assertEqual(self.hold([MOST], MOST), 1)
        self.assertEqual(self.hold([MOST], MOST + 1), 0)


class SmallRows(FullestCase):
    def test_against_all_cuttings(self):
        for row in small_rows(6, 2):
            for bound in range(1, sum(row) + 3):
                self.assertEqual(self.hold(row, bound), fullest_by_trying(row, bound), (row, bound))

    def test_the_fields_are_of_the_kinds_told(self):
        for row in small_rows(5, 2):
            for bound in (1, 2, 3):
                told = fullest(row, bound)
                self.assertIs(type(told.cuts), list)
                self.assertIs(type(told.places), list)
                self.assertTrue(all(type(place) is int for place in told.cuts + told.places))


if __name__ == "__main__":
    unittest.main()
