import unittest

from cutrow.answers import Least
from cutrow.parts import lowest
from reckon import is_least, lowest_by_trying
from samples import MOST, small_rows


class LowestCase(unittest.TestCase):
    def hold(self, row, count):
        """Holds what is told against point [4], and gives its number back."""
        told = lowest(row, count)
        self.assertIs(type(told), Least)
        fields = (told.cuts, told.number, told.stretches)
        self.assertTrue(is_least(row, count, *fields), (row, count, fields))
        self.assertIs(told.shows(row, count), True, (row, count, fields))
        return told.number


class OrdinaryRows(LowestCase):
    def test_count_1_is_all_together(self):
        for row in ([3, 1, 4, 1, 5], [0, 0, 7], [MOST] * 4, [2, 2]):
            self.assertEqual(self.hold(row, 1), sum(row))
            self.assertEqual(lowest(row, 1).cuts, [])

    def test_count_2(self):
        self.assertEqual(self.hold([3, 1, 4, 1, 5], 2), 8)
        self.assertEqual(self.hold([1, 1, 1, 1], 2), 2)
        self.assertEqual(self.hold([1, 1, 1], 2), 2)
        self.assertEqual(self.hold([MOST] * 5, 2), 3 * MOST)

    def test_as_many_as_loads_and_more(self):
        for row in ([3, 1, 4, 1, 5], [2], [MOST] * 3, [0, 1, 0]):
            for count in (len(row), len(row) + 1, 2 * len(row), MOST, 10 ** 40):
                self.assertEqual(self.hold(row, count), max(row))

    def test_one_less_than_loads(self):
        self.assertEqual(self.hold([2, 2, 2, 2], 3), 4)
        self.assertEqual(self.hold([3, 1, 1, 3], 3), 3)

    def test_a_number_that_is_a_load(self):
        self.assertEqual(self.hold([1, 9, 1, 1], 3), 9)
        self.assertEqual(self.hold([5], 1), 5)
        self.assertEqual(self.hold([4, 1, 3, 2, 2], 3), 4)

    def test_a_number_that_is_neither_nought_nor_a_load(self):
        for row, count in (([3, 1, 4, 1, 5], 2), ([2, 2], 1), ([1] * 7, 3), ([MOST] * 7, 3), ([7, 5, 6, 5, 7], 3)):
            number = self.hold(row, count)
            self.assertNotIn(number, [0] + row)
            self.assertEqual(len(lowest(row, count).stretches), count)


class Edges(LowestCase):
    def test_row_of_none(self):
        for count in (1, 2, MOST, 10 ** 40):
            told = lowest([], count)
            self.assertEqual(self.hold([], count), 0)
            self.assertEqual((told.cuts, told.stretches), ([], []))

    def test_one_load(self):
        for load in (0, 1, MOST):
            for count in (1, 2, 3):
                self.assertEqual(self.hold([load], count), load)
                self.assertEqual(lowest([load], count).cuts, [])

    def test_the_number_0(self):
        for count in (1, 2, 5, 9):
            self.assertEqual(self.hold([0] * 5, count), 0)

    def test_zeros_between_loads(self):
        self.assertEqual(self.hold([0, 2, 0, 2, 0, 2, 0], 1), 6)
        self.assertEqual(self.hold([0, 2, 0, 2, 0, 2, 0], 2), 4)
        self.assertEqual(self.hold([0, 2, 0, 2, 0, 2, 0], 3), 2)


class SmallRows(LowestCase):
    def test_against_all_cuttings(self):
        for row in small_rows(6, 2):
            for count in range(1, len(row) + 3):
                self.assertEqual(self.hold(row, count), lowest_by_trying(row, count), (row, count))

    def test_stretches_are_told_just_where_they_are_needed(self):
        for row in small_rows(6, 2):
            for count in range(1, len(row) + 3):
                told = lowest(row, count)
                needed = told.number != 0 and told.number not in row
                self.assertEqual(len(told.stretches), count if needed else 0, (row, count))

    def test_greater_loads_against_all_cuttings(self):
        for row in small_rows(4, 3):
            far = [load * 333333 + place for place, load in enumerate(row)]
            for loads in (far, far[::-1]):
                loads = [min(load, MOST) for load in loads]
                for count in range(1, len(loads) + 2):
                    self.assertEqual(self.hold(loads, count), lowest_by_trying(loads, count), (loads, count))

    def test_the_fields_are_of_the_kinds_told(self):
        for row in small_rows(5, 2):
            for count in (1, 2, 3):
                told = lowest(row, count)
                self.assertIs(type(told.cuts), list)
                self.assertIs(type(told.number), int)
                self.assertIs(type(told.stretches), list)
                self.assertTrue(all(type(cut) is int for cut in told.cuts))
                for stretch in told.stretches:
                    self.assertIs(type(stretch), tuple)
                    self.assertEqual([type(place) for place in stretch], [int, int])


if __name__ == "__main__":
    unittest.main()
