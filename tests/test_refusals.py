import unittest

from cutrow.errors import BadCuts, BadNumber, BadRow, BadText, CutError
from cutrow.parts import fewest, fullest, lowest
from cutrow.rows import borne
from cutrow.texts import read, written
from samples import MOST, Sour, below, no_lists, no_loads, no_texts, no_whole_numbers, refusal

# Each function of a row and something else, with such as is good for the row handed in.
WITH_NUMBERS = {fewest: 0, lowest: 1, fullest: 1}
WITH_CUTS = [borne, written]
GOOD = [(fewest, 5), (lowest, 2), (fullest, 5), (borne, []), (written, [])]


def wrong_rows():
    return no_lists() + [[thing] for thing in no_loads()]


def wrong_cuts():
    return no_lists() + [[thing] for thing in no_whole_numbers()] + [[0], [3], [-1], [2, 1], [1, 1], [1, 3], [10 ** 40]]


class WhatIsNoRow(unittest.TestCase):
    def test_another_kind_than_a_list(self):
        for function, other in GOOD:
            for thing in no_lists():
                self.assertIs(refusal(function, thing, other), BadRow, (function, type(thing)))

    def test_what_is_no_load_wherever_it_stands(self):
        for function, other in GOOD:
            for thing in no_loads():
                for row in ([thing], [thing, 1, 2], [1, thing, 2], [1, 2, thing], [thing, thing]):
                    self.assertIs(refusal(function, row, other), BadRow, (function, type(thing)))

    def test_loads_at_the_bounds(self):
        for function, other in GOOD:
            for row in ([], [0], [MOST], [0, MOST, 0]):
                self.assertIs(refusal(function, row, other), None, (function, row))

    def test_more_than_a_million_loads(self):
        for function, other in GOOD:
            self.assertIs(refusal(function, [0] * (MOST + 1), other), BadRow, function)


class WhatIsNoNumber(unittest.TestCase):
    def test_what_is_no_whole_number(self):
        for function in WITH_NUMBERS:
            for row in ([], [3], [3, 1, 4]):
                for thing in no_whole_numbers() + no_lists():
                    if type(thing) is not int:
                        self.assertIs(refusal(function, row, thing), BadNumber, (function, type(thing)))

    def test_at_the_bound_and_just_beyond(self):
        for function, least in WITH_NUMBERS.items():
            for row in ([], [0], [3], [3, 1, 4]):
                for number in (least, least + 1, 10 ** 40):
                    self.assertIs(refusal(function, row, number), None, (function, row, number))
                for number in below(least):
                    self.assertIs(refusal(function, row, number), BadNumber, (function, row, number))


class WhatAreNoCuts(unittest.TestCase):
    def test_for_a_row(self):
        for function in WITH_CUTS:
            for cuts in wrong_cuts():
                self.assertIs(refusal(function, [5, 6, 7], cuts), BadCuts, function)

    def test_for_a_row_of_none(self):
        for function in WITH_CUTS:
            for cuts in wrong_cuts() + [[1]]:
                self.assertIs(refusal(function, [], cuts), BadCuts, function)

    def test_at_the_bounds_and_just_beyond(self):
        for function in WITH_CUTS:
            for cuts in ([], [1], [2], [1, 2]):
                self.assertIs(refusal(function, [5, 6, 7], cuts), None)
            for cuts in ([0], [3], [0, 1], [2, 3], [1, 2, 2], [1, 2, 1]):
                self.assertIs(refusal(function, [5, 6, 7], cuts), BadCuts)


class BothBad(unittest.TestCase):
    def test_the_row_is_looked_at_first(self):
        for row in wrong_rows():
            for function in WITH_NUMBERS:
                for number in (None, -1, True, "1", [], Sour()):
                    self.assertIs(refusal(function, row, number), BadRow, function)
            for function in WITH_CUTS:
                for cuts in (None, [0], [True], [2, 1], (1,), Sour()):
                    self.assertIs(refusal(function, row, cuts), BadRow, function)


class ErrorsRaised(unittest.TestCase):
    def test_they_are_cut_errors_and_value_errors(self):
        for call, kind in (
            (lambda: fewest(None, 1), BadRow), (lambda: fewest([], -1), BadNumber),
            (lambda: lowest([], 0), BadNumber), (lambda: fullest([], 0), BadNumber),
            (lambda: written([], [0]), BadCuts), (lambda: read(""), BadText),
        ):
            with self.assertRaises(CutError) as caught:
                call()
            self.assertEqual(type(caught.exception).__mro__[:3], (kind, CutError, ValueError))

    def test_what_is_no_text(self):
        for thing in no_texts():
            self.assertIs(refusal(read, thing), BadText, type(thing))


if __name__ == "__main__":
    unittest.main()
