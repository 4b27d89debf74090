"""Nothing handed in is changed or kept, and what is told is new."""

import unittest
from copy import deepcopy

from cutrow.answers import Fewest, Great, Least, Most
from cutrow.parts import fewest, fullest, lowest
from cutrow.rows import borne, halved
from cutrow.texts import read, written
from samples import MOST, refusal

ROWS = ([], [0], [5], [3, 1, 4, 1, 5], [2, 2, 2, 2], [0, MOST, 0, MOST])
CALLS = [
    (function, row, number)
    for row in ROWS
    for function, numbers in ((fewest, (0, 2, 5, 9, MOST)), (lowest, (1, 2, 3, 9)), (fullest, (1, 2, 5, 9, MOST)))
    for number in numbers
]


def fields(answer):
    return deepcopy(vars(answer))


def spoil(answer):
    for value in vars(answer).values():
        if isinstance(value, list):
            value.append("spoilt")
            value[0] = "spoilt"


class NothingIsChanged(unittest.TestCase):
    def test_by_what_is_asked_of_a_row(self):
        for function, row, number in CALLS:
            then = list(row)
            answer = function(row, number)
            self.assertEqual(row, then)
            told = fields(answer)
            answer.shows(row, number)
            self.assertEqual((row, fields(answer)), (then, told))

    def test_by_texts(self):
        row, cuts = [3, 1, 4], [1, 2]
        written(row, cuts)
        self.assertEqual((row, cuts), ([3, 1, 4], [1, 2]))

    def test_by_a_refusal(self):
        row, cuts = [3, 1, -4], [2, 1]
        for function in (fewest, lowest, fullest, halved):
            refusal(function, row, 1)
            self.assertEqual(row, [3, 1, -4])
        for function in (borne, written):
            refusal(function, row, cuts)
            refusal(function, [1, 2, 3], cuts)
            self.assertEqual((row, cuts), ([3, 1, -4], [2, 1]))

    def test_by_an_answer_that_shows_nothing(self):
        row = [1, 1]
        for answer in (Fewest([2, 1], [(1, 0)]), Great(9), Least([0], 7, [(0, 0)]), Most([5], [-1])):
            told = fields(answer)
            self.assertIs(answer.shows(row, 1), False)
            self.assertEqual((row, fields(answer)), ([1, 1], told))


class WhatIsToldIsNew(unittest.TestCase):
    def test_answers(self):
        for function, row, number in CALLS:
            then = list(row)
            answer, other = function(row, number), function(row, number)
            told = fields(other)
            self.assertIsNot(answer, other)
            self.assertEqual(fields(answer), told)
            spoil(answer)
            self.assertEqual((row, fields(other)), (then, told))
            self.assertEqual(fields(function(row, number)), told)

    def test_a_row_changed_afterwards(self):
        for function, row, number in CALLS:
            handed = list(row)
            answer = function(handed, number)
            told = fields(answer)
            handed.append(1)
            handed[0] = 7
            self.assertEqual(fields(answer), told)
            self.assertIs(answer.shows(row, number), True)

    def test_no_two_fields_are_one_list(self):
        for function, row, number in CALLS:
            lists = [value for value in vars(function(row, number)).values() if isinstance(value, list)]
            self.assertEqual(len({id(value) for value in lists}), len(lists))

    def test_texts(self):
        for text in ("-", "7", "3 1 | 4 | 1 5"):
            told, then, other = read(text), deepcopy(read(text)), read(text)
            for part in told:
                part.append("spoilt")
            self.assertEqual(other, then)
            self.assertEqual(read(text), then)


if __name__ == "__main__":
    unittest.main()
