import unittest

from cutrow.answers import Fewest, Great
from cutrow.parts import fewest
from reckon import fewest_by_trying, is_fewest, is_great
from samples import MOST, small_rows


class FewestCase(unittest.TestCase):
    def hold(self, row, bound):
        """Holds what is told against point [3], and gives it back."""
        told = fewest(row, bound)
        if isinstance(told, Great):
            self.assertIs(type(told), Great)
            self.assertTrue(is_great(row, bound, told.place), (row, bound, told.place))
        else:
            self.assertIs(type(told), Fewest)
            self.assertTrue(is_fewest(row, bound, told.cuts, told.stretches), (row, bound, told.cuts, told.stretches))
        self.assertIs(told.shows(row, bound), True)
        return told

    def hold_fewest(self, row, bound, count):
        told = self.hold(row, bound)
        self.assertIs(type(told), Fewest, (row, bound))
        self.assertEqual(len(told.cuts), count, (row, bound))

    def hold_great(self, row, bound):
        self.assertIs(type(self.hold(row, bound)), Great, (row, bound))


class OrdinaryRows(FewestCase):
    def test_cuts_and_stretches(self):
        told = self.hold([3, 1, 4, 1, 5], 5)
        self.assertEqual(len(told.cuts), 2)
        self.assertEqual(len(told.stretches), 2)
        self.hold_fewest([3, 1, 4, 1, 5], 8, 1)
        self.hold_fewest([2, 2, 2, 2], 4, 1)
        self.hold_fewest([2, 2, 2, 2], 3, 3)

    def test_no_cut_and_no_stretch_where_all_fits(self):
        for row in ([3, 1, 4, 1, 5], [7], [0, 0], [MOST, 0, MOST]):
            for bound in (sum(row), sum(row) + 1, 10 ** 40):
                told = self.hold(row, bound)
                self.assertEqual((told.cuts, told.stretches), ([], []))

    def test_one_less_than_all_together(self):
        self.hold_fewest([3, 1, 4, 1, 5], 13, 1)
        self.hold_fewest([MOST, MOST], 2 * MOST - 1, 1)

    def test_the_greatest_load_and_one_less(self):
        self.hold_fewest([3, 1, 4, 1, 5], 5, 2)
        self.hold_great([3, 1, 4, 1, 5], 4)
        self.hold_fewest([MOST, 1, MOST], MOST, 2)
        self.hold_great([MOST, 1, MOST], MOST - 1)

    def test_a_great_load_wherever_it_stands(self):
        for row in ([9, 1, 1], [1, 9, 1], [1, 1, 9], [9, 9, 9], [9]):
            self.hold_great(row, 8)
            self.assertEqual(row[fewest(row, 8).place], 9)


class Edges(FewestCase):
    def test_row_of_none(self):
        for bound in (0, 1, MOST, 10 ** 40):
            told = self.hold([], bound)
            self.assertEqual((type(told), told.cuts, told.stretches), (Fewest, [], []))

    def test_one_load(self):
        self.hold_fewest([0], 0, 0)
        self.hold_fewest([1], 1, 0)
        self.hold_great([1], 0)
        self.hold_fewest([MOST], MOST, 0)
        self.hold_great([MOST], MOST - 1)

    def test_zeros(self):
        for bound in (0, 1, MOST):
            self.hold_fewest([0] * 9, bound, 0)

    def test_bound_0_among_zeros(self):
        for row in ([0, 1], [1, 0], [0, 0, 1, 0]):
            self.hold_great(row, 0)

    def test_zeros_between_loads(self):
        self.hold_fewest([0, 2, 0, 2, 0, 2, 0], 2, 2)
        self.hold_fewest([0, 2, 0, 2, 0, 2, 0], 3, 2)
        self.hold_fewest([0, 2, 0, 2, 0, 2, 0], 4, 1)

    def test_great_loads(self):
        self.hold_fewest([MOST] * 6, MOST, 5)
        self.hold_fewest([MOST] * 6, 2 * MOST, 2)
        self.hold_fewest([MOST] * 6, 2 * MOST - 1, 5)


class SmallRows(FewestCase):
    def test_against_all_cuttings(self):
        for row in small_rows(6, 2):
            for bound in range(sum(row) + 2):
                told = self.hold(row, bound)
                least = fewest_by_trying(row, bound)
                count = None if isinstance(told, Great) else len(told.cuts)
                self.assertEqual(count, least, (row, bound))

    def test_great_just_where_a_load_is_more(self):
        for row in small_rows(4, 4):
            for bound in range(6):
                told = self.hold(row, bound)
                self.assertEqual(isinstance(told, Great), any(load > bound for load in row), (row, bound))

    def test_the_fields_are_of_the_kinds_told(self):
        for row in small_rows(5, 2):
            for bound in range(2, 5):
                told = fewest(row, bound)
                self.assertIs(type(told.cuts), list)
                self.assertIs(type(told.stretches), list)
                for stretch in told.stretches:
                    self.assertIs(type(stretch), tuple)
                    self.assertEqual([type(place) for place in stretch], [int, int])
                self.assertTrue(all(type(cut) is int for cut in told.cuts))
        self.assertIs(type(fewest([3], 2).place), int)


if __name__ == "__main__":
    unittest.main()
