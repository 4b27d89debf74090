import re
import unittest
from itertools import product

from cutrow.errors import BadText
from cutrow.texts import read, written
from samples import MOST, all_cuts, no_texts, refusal, small_rows

# Every sign up to the last that the document speaks of.
SIGNS = [chr(code) for code in range(ord("~") + 1)]
LOAD = r"(?:0|[1-9][0-9]{0,5}|1000000)"
WRITTEN = re.compile(rf"-|{LOAD}(?: (?:\| )?{LOAD})*")

TEXTS = ["-", "0", "7", "10", "1000000", "999999", "1 2", "1 | 2", "0 0 | 0", "3 1 | 4 | 1 5", "1000000 | 0 1000000"]


def written_by_places(row, cuts):
    """The same told otherwise: place by place."""
    words = []
    for place, load in enumerate(row):
        if place in cuts:
            words.append("|")
        words.append(str(load))
    return " ".join(words) or "-"


def neighbours(text):
    """The text with one sign put in, left out or set in its place."""
    for at in range(len(text) + 1):
        for sign in SIGNS:
            yield text[:at] + sign + text[at:]
            yield text[:at] + sign + text[at + 1:]
        yield text[:at] + text[at + 1:]


class Written(unittest.TestCase):
    def test_row_of_none(self):
        self.assertEqual(written([], []), "-")

    def test_one_load(self):
        self.assertEqual(written([0], []), "0")
        self.assertEqual(written([7], []), "7")
        self.assertEqual(written([10], []), "10")
        self.assertEqual(written([MOST], []), "1000000")

    def test_cuts_nowhere_and_everywhere(self):
        self.assertEqual(written([3, 1, 4], []), "3 1 4")
        self.assertEqual(written([3, 1, 4], [1, 2]), "3 | 1 | 4")

    def test_some_cuts(self):
        self.assertEqual(written([3, 1, 4, 1, 5], [2, 3]), "3 1 | 4 | 1 5")
        self.assertEqual(written([0, MOST, 0], [1]), "0 | 1000000 0")
        self.assertEqual(written([0, MOST, 0], [2]), "0 1000000 | 0")

    def test_small_rows_cut_in_every_way(self):
        for row in small_rows(5, 2):
            for cuts in all_cuts(row):
                text = written(row, cuts)
                self.assertIs(type(text), str)
                self.assertEqual(text, written_by_places(row, cuts))


class Read(unittest.TestCase):
    def test_what_is_told(self):
        self.assertEqual(read("-"), ([], []))
        self.assertEqual(read("0"), ([0], []))
        self.assertEqual(read("1000000"), ([MOST], []))
        self.assertEqual(read("3 1 4"), ([3, 1, 4], []))
        self.assertEqual(read("3 1 | 4 | 1 5"), ([3, 1, 4, 1, 5], [2, 3]))

    def test_it_is_a_pair_of_lists_of_whole_numbers(self):
        for text in TEXTS:
            pair = read(text)
            self.assertIs(type(pair), tuple)
            self.assertEqual([type(told) for told in pair], [list, list])
            self.assertTrue(all(type(number) is int for number in pair[0] + pair[1]))

    def test_each_text_that_is_written_is_read_to_its_row_and_cuts(self):
        for row in small_rows(5, 2):
            for cuts in all_cuts(row):
                self.assertEqual(read(written(row, cuts)), (row, cuts))
        for loads in product((0, 9, 10, 100, 999999, MOST), repeat=3):
            for cuts in all_cuts(loads):
                self.assertEqual(read(written(list(loads), cuts)), (list(loads), cuts))


class JustWhatIsWritten(unittest.TestCase):
    def hold(self, text):
        if WRITTEN.fullmatch(text):
            self.assertEqual(written(*read(text)), text, repr(text))
        else:
            self.assertIs(refusal(read, text), BadText, repr(text))

    def test_one_sign_put_in_left_out_or_set_in_its_place(self):
        for text in TEXTS:
            self.hold(text)
            for other in neighbours(text):
                self.hold(other)

    def test_every_short_text_of_the_signs_used(self):
        for count in range(7):
            for signs in product("01 |-", repeat=count):
                self.hold("".join(signs))

    def test_every_word_of_figures(self):
        for count in range(6):
            for figures in product("019", repeat=count):
                self.hold("".join(figures))


class WhatIsNotWrittenSo(unittest.TestCase):
    def refuse(self, *wrong):
        for text in wrong:
            self.assertIs(refusal(read, text), BadText, repr(text)[:80])

    def test_the_empty_text_and_blanks(self):
        self.refuse("", " ", "  ", "\n", "\t")

    def test_needless_noughts(self):
        self.refuse("00", "01", "1 02", "000", "0 | 00", "01000000", "0" * 5000)

    def test_two_blanks_and_blanks_at_an_end(self):
        self.refuse("1  2", " 1", "1 ", " -", "- ", "1  | 2", "1 |  2", "1 | 2 ", " 1 | 2", "1\n", "1\t2", "1\n2")

    def test_bars(self):
        self.refuse("|", " | ", "| 1", "1 |", " | 1", "1 | ", "1 | | 2", "1 || 2", "1 |  | 2", "1| 2", "1 |2", "1|2")

    def test_a_row_of_none_among_others(self):
        self.refuse("--", "- -", "- 1", "1 -", "- | 1", "1 | -", "- | -", "-|", "- |")

    def test_signs_and_other_figures(self):
        self.refuse("-1", "+1", "1 -2", "-0", "1.0", "1e3", "1_0", "0x1", "a", "A", "1,2", "1;2", "1 2.", "None", "True")

    def test_loads_above_the_greatest(self):
        self.refuse("1000001", "1 1000001", "1 | 1000001", "2000000", "9999999", "10000000", "1" * 5000, "9" * 5000)

    def test_what_is_no_text(self):
        for thing in no_texts():
            self.assertIs(refusal(read, thing), BadText, type(thing))


if __name__ == "__main__":
    unittest.main()
