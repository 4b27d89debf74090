import unittest

from cutrow.errors import BadCuts, BadRow
from cutrow.rows import borne
from samples import MOST, Sour, all_cuts, no_lists, no_loads, no_whole_numbers, refusal, small_rows


def part_of(place, cuts):
    return len([cut for cut in cuts if cut <= place])


def borne_by_places(row, cuts):
    """The same told otherwise: each load goes to the part that its place is in."""
    if not row:
        return []
    sums = [0] * (len(cuts) + 1)
    for place, load in enumerate(row):
        sums[part_of(place, cuts)] += load
    return sums


class WhatPartsBear(unittest.TestCase):
    def test_no_cuts(self):
        self.assertEqual(borne([3], []), [3])
        self.assertEqual(borne([3, 1, 4, 1, 5], []), [14])

    def test_some_cuts(self):
        self.assertEqual(borne([3, 1, 4, 1, 5], [1]), [3, 11])
        self.assertEqual(borne([3, 1, 4, 1, 5], [4]), [9, 5])
        self.assertEqual(borne([3, 1, 4, 1, 5], [2, 3]), [4, 4, 6])

    def test_cut_at_every_place(self):
        self.assertEqual(borne([3, 1, 4, 1, 5], [1, 2, 3, 4]), [3, 1, 4, 1, 5])

    def test_row_of_none_has_no_parts(self):
        self.assertEqual(borne([], []), [])

    def test_loads_at_the_bounds(self):
        self.assertEqual(borne([0], []), [0])
        self.assertEqual(borne([MOST], []), [MOST])
        self.assertEqual(borne([0, 0, 0], [1, 2]), [0, 0, 0])
        self.assertEqual(borne([MOST, 0, MOST, MOST], [1, 2]), [MOST, 0, 2 * MOST])

    def test_small_rows_cut_in_every_way(self):
        for row in small_rows(5, 2):
            for cuts in all_cuts(row):
                self.assertEqual(borne(row, cuts), borne_by_places(row, cuts), (row, cuts))

    def test_row_of_a_million_loads(self):
        row = [MOST] * MOST
        self.assertEqual(borne(row, []), [MOST * MOST])
        self.assertEqual(borne(row, list(range(1, MOST))), row)

    def test_loads_and_sums_are_whole_numbers(self):
        for told in borne([1, 0, MOST], [1, 2]) + borne([7], []):
            self.assertIs(type(told), int)


class NothingChangedOrKept(unittest.TestCase):
    def test_row_and_cuts_stay_as_they_were(self):
        for row, cuts in (([], []), ([5], []), ([3, 1, 4], [1, 2]), ([0, MOST, 0, 2], [2])):
            row_then, cuts_then = list(row), list(cuts)
            borne(row, cuts)
            self.assertEqual((row, cuts), (row_then, cuts_then))

    def test_refused_row_and_cuts_stay_as_they_were(self):
        row, cuts = [3, 1, -4], [2, 1]
        self.assertIs(refusal(borne, row, cuts), BadRow)
        self.assertEqual((row, cuts), ([3, 1, -4], [2, 1]))
        row = [3, 1, 4]
        self.assertIs(refusal(borne, row, cuts), BadCuts)
        self.assertEqual((row, cuts), ([3, 1, 4], [2, 1]))

    def test_the_answer_is_a_new_list(self):
        for row, cuts in (([], []), ([5], []), ([3, 1, 4], [1, 2])):
            told = borne(row, cuts)
            again = borne(row, cuts)
            self.assertIs(type(told), list)
            self.assertIsNot(told, row)
            self.assertIsNot(told, cuts)
            self.assertIsNot(told, again)
            told.append(99)
            self.assertEqual(borne(row, cuts), again)


class WhatIsNoRow(unittest.TestCase):
    def test_another_kind_than_a_list(self):
        for thing in no_lists():
            self.assertIs(refusal(borne, thing, []), BadRow, type(thing))

    def test_what_is_no_load_wherever_it_stands(self):
        for thing in no_loads():
            for row in ([thing], [thing, 1, 2], [1, thing, 2], [1, 2, thing], [thing, thing]):
                self.assertIs(refusal(borne, row, []), BadRow, type(thing))

    def test_more_than_a_million_loads(self):
        self.assertIs(refusal(borne, [0] * (MOST + 1), []), BadRow)


class WhatAreNoCuts(unittest.TestCase):
    def test_another_kind_than_a_list(self):
        for row in ([], [1], [1, 2, 3]):
            for thing in no_lists():
                self.assertIs(refusal(borne, row, thing), BadCuts, type(thing))

    def test_what_is_no_whole_number_wherever_it_stands(self):
        for thing in no_whole_numbers():
            for cuts in ([thing], [thing, 2], [1, thing, 3], [1, 2, thing]):
                self.assertIs(refusal(borne, [1, 2, 3, 4, 5], cuts), BadCuts, type(thing))

    def test_places_that_do_not_rise(self):
        for cuts in ([1, 1], [2, 1], [1, 3, 3], [1, 3, 2], [2, 2, 3], [3, 2, 1], [1, 2, 1]):
            self.assertIs(refusal(borne, [1, 2, 3, 4], cuts), BadCuts, cuts)

    def test_the_first_place_and_places_below(self):
        for cuts in ([0], [0, 1], [-1], [-1, 1], [-3, -2], [-10 ** 40], [1, 0], [1, -1]):
            self.assertIs(refusal(borne, [1, 2, 3, 4], cuts), BadCuts, cuts)

    def test_places_at_the_end_or_beyond(self):
        for cuts in ([4], [5], [1, 4], [1, 2, 3, 4], [3, 10 ** 40]):
            self.assertIs(refusal(borne, [1, 2, 3, 4], cuts), BadCuts, cuts)
        self.assertIs(refusal(borne, [1], [1]), BadCuts)
        self.assertIs(refusal(borne, [1], [0]), BadCuts)

    def test_any_cut_of_a_row_of_none(self):
        for cut in (-1, 0, 1, 2, True, None, Sour()):
            self.assertIs(refusal(borne, [], [cut]), BadCuts)


class BothBad(unittest.TestCase):
    def test_the_row_is_looked_at_first(self):
        for row in [None, (1, 2), [True], [-1], [1, MOST + 1], Sour()]:
            for cuts in [None, (1,), [0], [True], [2, 1], [9], Sour()]:
                self.assertIs(refusal(borne, row, cuts), BadRow)


if __name__ == "__main__":
    unittest.main()
