"""Rows of as many loads as there may be are answered in good time."""

import unittest

from cutrow.answers import Fewest, Least, Most
from cutrow.errors import BadText
from cutrow.parts import fewest, fullest, lowest
from cutrow.texts import read, written
from samples import MOST, in_good_time, refusal

ALIKE = [MOST] * MOST
NOUGHTS = [0] * MOST
MIXED = [place * place % (MOST + 1) for place in range(MOST)]


class AMillionLoads(unittest.TestCase):
    def ask(self, function, row, number):
        with in_good_time():
            answer = function(row, number)
        with in_good_time():
            self.assertIs(answer.shows(row, number), True)
        return answer

    def test_fewest(self):
        self.assertEqual(len(self.ask(fewest, ALIKE, MOST).cuts), MOST - 1)
        self.assertEqual(len(self.ask(fewest, ALIKE, 2 * MOST).cuts), MOST // 2 - 1)
        self.assertEqual(self.ask(fewest, ALIKE, MOST * MOST).cuts, [])
        self.assertEqual(self.ask(fewest, NOUGHTS, 0).cuts, [])
        self.assertEqual(self.ask(fewest, NOUGHTS[:-1] + [1], 0).place, MOST - 1)
        for bound in (MOST, MOST * MOST // 4):
            self.ask(fewest, MIXED, bound)

    def test_lowest(self):
        self.assertEqual(self.ask(lowest, ALIKE, 1).number, MOST * MOST)
        self.assertEqual(self.ask(lowest, ALIKE, 3).number, (MOST // 3 + 1) * MOST)
        self.assertEqual(self.ask(lowest, ALIKE, MOST - 1).number, 2 * MOST)
        self.assertEqual(self.ask(lowest, ALIKE, MOST).number, MOST)
        self.assertEqual(self.ask(lowest, NOUGHTS, 2).number, 0)
        for count in (1000, MOST // 2, 10 ** 40):
            self.ask(lowest, MIXED, count)

    def test_fullest(self):
        self.assertEqual(len(self.ask(fullest, ALIKE, 1).places), MOST)
        self.assertEqual(len(self.ask(fullest, ALIKE, MOST + 1).places), MOST // 2)
        self.assertEqual(self.ask(fullest, ALIKE, MOST * MOST + 1).places, [])
        self.assertEqual(self.ask(fullest, NOUGHTS, 1).places, [])
        for bound in (MOST, MOST * MOST // 4):
            self.ask(fullest, MIXED, bound)

    def test_answers_that_are_wrong(self):
        cuts = list(range(1, MOST))
        whole = [(0, MOST - 1)] * (MOST - 1)
        for answer in (Fewest(cuts, whole), Least(cuts, MOST - 1, whole), Most(cuts, [0] * MOST)):
            with in_good_time():
                self.assertIs(answer.shows(ALIKE, MOST), False)

    def test_texts(self):
        for row, cuts in ((ALIKE, []), (NOUGHTS, list(range(1, MOST))), (MIXED, list(range(3, MOST, 7)))):
            with in_good_time():
                self.assertTrue(read(written(row, cuts)) == (row, cuts))

    def test_a_text_of_more(self):
        with in_good_time():
            self.assertIs(refusal(read, "0 " * MOST + "0"), BadText)
            self.assertIs(refusal(read, "0 | " * MOST + "0"), BadText)
            self.assertIs(refusal(read, "0 " * (MOST - 1) + "0"), None)


if __name__ == "__main__":
    unittest.main()
