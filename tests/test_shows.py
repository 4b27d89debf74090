import unittest
from itertools import product

from cutrow.answers import Fewest, Great, Least, Most
from cutrow.parts import fewest, fullest, lowest
from reckon import (
    fewest_by_trying, fullest_by_trying, is_fewest, is_great, is_least, is_most, lowest_by_trying,
)
from samples import MOST, small_rows

HUGE = 10 ** 40
ROWS = ([], [0], [2], [1, 1], [2, 0], [1, 2, 1], [3, 1, 4, 1, 5], [0, 2, 0, 0, 2], [2, 2, 2, 2, 2, 2], [1, 9, 1, 1])


def lists_of(values, most):
    for count in range(most + 1):
        for told in product(values, repeat=count):
            yield list(told)


def near(number):
    return [number - 1, number + 1, -number, number - 100, number + 100, -1, HUGE, -HUGE]


def near_pair(pair):
    first, last = pair
    pairs = [(last, first), (first, first), (last, last), (first - 1, last - 1), (first + 1, last + 1)]
    return pairs + [(other, last) for other in near(first)] + [(first, other) for other in near(last)]


def variants(told, others, added):
    """A list with a thing changed, left out, twice, and the whole turned round, cut short and made longer."""
    yield told[::-1]
    yield told[:-1]
    yield told[1:]
    yield told + told
    yield []
    for thing in added:
        yield told + [thing]
        yield [thing] + told
    for at, thing in enumerate(told):
        yield told[:at] + told[at + 1:]
        yield told[:at] + [thing, thing] + told[at + 1:]
        for other in others(thing):
            yield told[:at] + [other] + told[at + 1:]
    for at in range(len(told) - 1):
        yield told[:at] + [told[at + 1], told[at]] + told[at + 2:]


def place_lists(told, row):
    return variants(told, near, [-1, 0, 1, len(row) - 1, len(row), len(row) + 1, HUGE, -HUGE])


def stretch_lists(told, row):
    end = len(row) - 1
    added = [(0, 1), (0, 0), (1, 0), (-1, 0), (-1, 1), (end - 1, end), (end, end), (end, end + 1), (0, HUGE)]
    return variants(told, near_pair, added)


class ShowsCase(unittest.TestCase):
    def setUp(self):
        self.seen = {True: 0, False: 0}

    def agree(self, answer, row, number, truth):
        told = answer.shows(row, number)
        self.assertIs(type(told), bool)
        self.assertIs(told, truth, (type(answer), vars(answer), row, number))
        self.seen[truth] += 1

    def agree_fewest(self, row, bound, cuts, stretches):
        self.agree(Fewest(cuts, stretches), row, bound, is_fewest(row, bound, cuts, stretches))

    def agree_great(self, row, bound, place):
        self.agree(Great(place), row, bound, is_great(row, bound, place))

    def agree_least(self, row, count, cuts, number, stretches):
        self.agree(Least(cuts, number, stretches), row, count, is_least(row, count, cuts, number, stretches))

    def agree_most(self, row, bound, cuts, places):
        self.agree(Most(cuts, places), row, bound, is_most(row, bound, cuts, places))

    def saw_both(self):
        self.assertGreater(self.seen[True], 0)
        self.assertGreater(self.seen[False], 0)


class EverySmallAnswer(ShowsCase):
    """Answers of every form over a few places, those beyond the row among them."""

    def test_fewest(self):
        for row in ([], [1], [1, 1], [1, 2], [2, 1, 1], [1, 0, 1], [1, 1, 1]):
            places = range(-1, len(row) + 1)
            for cuts in lists_of(places, 2):
                for stretches in lists_of(list(product(places, repeat=2)), 2):
                    for bound in (1, 2):
                        self.agree_fewest(row, bound, cuts, stretches)
        self.saw_both()

    def test_great(self):
        for row in small_rows(3, 2):
            for bound in range(-2, 4):
                for place in range(-4, 6):
                    self.agree_great(row, bound, place)
        self.saw_both()

    def test_least(self):
        for row in ([], [0], [1, 1], [1, 2], [1, 1, 1], [0, 1, 1]):
            places = range(-1, len(row) + 1)
            for cuts in lists_of(places, 1):
                for stretches in lists_of(list(product(places, repeat=2)), 2):
                    for number in range(-1, 4):
                        for count in (1, 2):
                            self.agree_least(row, count, cuts, number, stretches)
        self.saw_both()

    def test_most(self):
        for row in ([], [0], [2], [1, 1], [2, 1], [1, 0, 1], [2, 1, 2], [1, 1, 1]):
            places = range(-1, len(row) + 1)
            for cuts in lists_of(places, 2):
                for told in lists_of(places, 3):
                    for bound in (1, 2, 3):
                        self.agree_most(row, bound, cuts, told)
        self.saw_both()


class AnswersMadeByHand(ShowsCase):
    """What is told, with one thing changed."""

    def test_fewest(self):
        for row in ROWS:
            for bound in range(max(row, default=0), sum(row) + 2):
                told = fewest(row, bound)
                for cuts in place_lists(told.cuts, row):
                    self.agree_fewest(row, bound, cuts, told.stretches)
                for stretches in stretch_lists(told.stretches, row):
                    self.agree_fewest(row, bound, told.cuts, stretches)
        self.saw_both()

    def test_a_cut_and_a_stretch_left_out_together(self):
        told = fewest([2, 2, 2, 2], 3)
        for at in range(3):
            cuts = told.cuts[:at] + told.cuts[at + 1:]
            stretches = told.stretches[:at] + told.stretches[at + 1:]
            self.agree(Fewest(cuts, stretches), [2, 2, 2, 2], 3, False)

    def test_a_needless_cut_and_a_stretch_more(self):
        self.agree(Fewest([1], [(0, 1)]), [1, 1], 2, False)
        self.agree(Fewest([1], [(0, 1)]), [1, 1], 1, True)
        self.agree(Fewest([1], []), [1, 1], 2, False)
        self.agree(Fewest([1, 2, 3], [(0, 1), (0, 1), (2, 3)]), [2, 2, 2, 2], 3, False)

    def test_a_great_load_as_a_stretch_of_one_place(self):
        self.agree(Fewest([1], [(0, 0)]), [5, 1], 4, False)
        self.agree(Fewest([1], [(0, 0)]), [4, 1], 4, False)
        self.agree(Least([1], 3, [(0, 0), (1, 2)]), [4, 1, 2], 2, False)

    def test_great(self):
        for row in ROWS:
            for bound in range(6):
                for place in [*range(-7, 8), HUGE, -HUGE]:
                    self.agree_great(row, bound, place)
        self.saw_both()

    def test_least(self):
        for row in ROWS:
            for count in range(1, len(row) + 2):
                told = lowest(row, count)
                fields = (told.cuts, told.number, told.stretches)
                for cuts in place_lists(told.cuts, row):
                    self.agree_least(row, count, cuts, *fields[1:])
                for number in near(told.number) + list(range(-2, sum(row) + 2)):
                    self.agree_least(row, count, told.cuts, number, told.stretches)
                for stretches in stretch_lists(told.stretches, row):
                    self.agree_least(row, count, told.cuts, told.number, stretches)
        self.saw_both()

    def test_least_without_stretches_is_shown_by_nought_or_a_load_alone(self):
        self.agree(Least([], 0, []), [0, 0], 1, True)
        self.agree(Least([1], 0, []), [0, 0], 2, True)
        self.agree(Least([], 5, []), [0, 5, 0], 1, True)
        self.agree(Least([], 5, []), [2, 3], 1, False)
        self.agree(Least([], 5, [(0, 1)]), [2, 3], 1, True)

    def test_least_with_more_parts_than_the_count(self):
        self.agree(Least([1, 2], 5, []), [5, 5, 5], 3, True)
        self.agree(Least([1, 2], 5, []), [5, 5, 5], 2, False)
        self.agree(Least([1], 0, []), [0, 0], 1, False)

    def test_least_with_more_or_fewer_stretches_than_the_count(self):
        row = [1, 1, 1, 1, 1, 1]
        self.agree(Least([3], 3, [(0, 2), (2, 4)]), row, 2, True)
        self.agree(Least([3], 3, [(0, 2), (2, 4)]), row, 3, False)
        self.agree(Least([3], 3, [(0, 2)]), row, 2, False)
        self.agree(Least([2, 4], 2, [(0, 1), (1, 2), (2, 3), (3, 4)]), row, 3, False)

    def test_most(self):
        for row in ROWS:
            for bound in range(1, sum(row) + 3):
                told = fullest(row, bound)
                for cuts in place_lists(told.cuts, row):
                    self.agree_most(row, bound, cuts, told.places)
                for places in place_lists(told.places, row):
                    self.agree_most(row, bound, told.cuts, places)
        self.saw_both()

    def test_most_without_a_place(self):
        self.agree(Most([], []), [1, 1], 3, True)
        self.agree(Most([1], []), [1, 1], 3, False)
        self.agree(Most([], []), [1, 1], 2, False)
        self.agree(Most([], [0]), [1, 1], 3, False)
        self.agree(Most([], []), [], 1, True)
        self.agree(Most([], [0]), [], 1, False)


class OtherBoundsAndCounts(ShowsCase):
    def test_fewest_and_great(self):
        for row in ROWS:
            for bound in range(sum(row) + 1):
                told = fewest(row, bound)
                for other in [*range(-3, sum(row) + 3), HUGE, -HUGE]:
                    if isinstance(told, Great):
                        self.agree_great(row, other, told.place)
                    else:
                        self.agree_fewest(row, other, told.cuts, told.stretches)
        self.saw_both()

    def test_least(self):
        for row in ROWS:
            for count in range(1, len(row) + 2):
                told = lowest(row, count)
                for other in [*range(-3, len(row) + 3), HUGE, -HUGE]:
                    self.agree_least(row, other, told.cuts, told.number, told.stretches)
        self.saw_both()

    def test_most(self):
        for row in ROWS:
            for bound in range(1, sum(row) + 2):
                told = fullest(row, bound)
                for other in [*range(-3, sum(row) + 3), HUGE, -HUGE]:
                    self.agree_most(row, other, told.cuts, told.places)
        self.saw_both()

    def test_a_bound_below_0_is_none_of_point_3(self):
        self.agree(Fewest([], []), [], 0, True)
        self.agree(Fewest([], []), [], -1, False)
        self.agree(Great(0), [0], -1, False)
        self.agree(Great(0), [1], 0, True)

    def test_a_count_and_a_bound_below_1_are_none_of_points_4_and_5(self):
        self.agree(Least([], 0, []), [], 1, True)
        self.agree(Least([], 0, []), [], 0, False)
        self.agree(Least([], 0, []), [], -1, False)
        self.agree(Most([], []), [], 0, False)
        self.agree(Most([], [0]), [0], 0, False)
        self.agree(Most([], []), [], -1, False)


class OtherRows(ShowsCase):
    def test_answers_of_one_row_asked_with_another(self):
        rows = list(small_rows(3, 2))
        for row in rows:
            least = lowest(row, 2)
            few = fewest(row, 2)
            most = fullest(row, 2)
            for other in rows:
                self.agree_least(other, 2, least.cuts, least.number, least.stretches)
                self.agree_fewest(other, 2, few.cuts, few.stretches)
                self.agree_most(other, 2, most.cuts, most.places)
        self.saw_both()

    def test_lists_of_whole_numbers_that_are_no_rows(self):
        for row in ([-1], [-1, 5], [5, -1], [MOST + 1], [1, MOST + 1], [HUGE], [-HUGE, HUGE]):
            for number in (0, 1, 5, MOST + 1, HUGE):
                for place in range(len(row)):
                    self.agree(Great(place), row, number, False)
                    self.agree(Most([], [place]), row, number, False)
                    self.agree(Least([], row[place], []), row, number, False)
                self.agree(Fewest([], []), row, number, False)
                self.agree(Least([], 0, []), row, number, False)
                self.agree(Most([], []), row, number, False)
        self.agree(Fewest([], []), [MOST], MOST, True)
        self.agree(Great(0), [MOST], MOST - 1, True)

    def test_true_and_false_are_no_numbers(self):
        self.agree(Great(True), [0, 2], 1, False)
        self.agree(Great(1), [0, 2], True, False)
        self.agree(Fewest([True], [(0, 1)]), [1, 1], 1, False)
        self.agree(Fewest([1], [(False, 1)]), [1, 1], 1, False)
        self.agree(Fewest([1], [(0, True)]), [1, 1], 1, False)
        self.agree(Fewest([], []), [True], 1, False)
        self.agree(Least([], True, []), [1], 1, False)
        self.agree(Least([], 1, []), [1], True, False)
        self.agree(Most([], [0]), [1], True, False)
        self.agree(Most([], [False]), [1], 1, False)
        self.agree(Most([True], [0, 1]), [1, 1], 1, False)

    def test_a_pair_is_a_tuple_of_two(self):
        for stretch in ([0, 1], (0,), (0, 1, 1), (), 0):
            self.agree(Fewest([1], [stretch]), [1, 1], 1, False)
            self.agree(Least([], 5, [stretch]), [2, 3], 1, False)


class WhatIsShownIsBest(unittest.TestCase):
    """What an answer shows must be so, held against all cuttings."""

    def test_fewest(self):
        for row in small_rows(3, 2):
            pairs = [(first, last) for first in range(len(row)) for last in range(len(row))]
            for bound in range(4):
                best = fewest_by_trying(row, bound)
                for cuts in lists_of(range(1, len(row)), 2):
                    for stretches in lists_of(pairs, 2):
                        if Fewest(cuts, stretches).shows(row, bound):
                            self.assertEqual(len(cuts), best, (row, bound))

    def test_least(self):
        for row in small_rows(3, 2):
            pairs = [(first, last) for first in range(len(row)) for last in range(len(row))]
            for count in (1, 2):
                best = lowest_by_trying(row, count)
                for cuts in lists_of(range(1, len(row)), 1):
                    for stretches in lists_of(pairs, 2):
                        for number in range(5):
                            if Least(cuts, number, stretches).shows(row, count):
                                self.assertEqual(number, best, (row, count))

    def test_most(self):
        for row in small_rows(4, 2):
            for bound in (1, 2, 3):
                best = fullest_by_trying(row, bound)
                for cuts in lists_of(range(1, len(row)), 3):
                    for places in lists_of(range(len(row)), 4):
                        if Most(cuts, places).shows(row, bound):
                            self.assertEqual(len(places), best, (row, bound))


class FieldsAsTheyStandThen(unittest.TestCase):
    def test_a_list_changed_after_the_answer_was_made(self):
        row = [2, 2, 2]
        answer = fewest(row, 3)
        self.assertIs(answer.shows(row, 3), True)
        cut = answer.cuts.pop()
        self.assertIs(answer.shows(row, 3), False)
        answer.cuts.append(cut)
        self.assertIs(answer.shows(row, 3), True)
        stretch = answer.stretches.pop(0)
        self.assertIs(answer.shows(row, 3), False)
        answer.stretches.insert(0, stretch)
        self.assertIs(answer.shows(row, 3), True)
        answer.stretches.reverse()
        self.assertIs(answer.shows(row, 3), False)

    def test_a_wrong_answer_set_right(self):
        answer = Fewest([], [])
        self.assertIs(answer.shows([1, 1], 1), False)
        answer.cuts.append(1)
        answer.stretches.append((0, 1))
        self.assertIs(answer.shows([1, 1], 1), True)

    def test_a_field_set_anew(self):
        answer = fewest([1, 5, 1], 4)
        self.assertIs(answer.shows([1, 5, 1], 4), True)
        answer.place = 0
        self.assertIs(answer.shows([1, 5, 1], 4), False)
        answer = lowest([2, 3], 1)
        answer.number = 6
        self.assertIs(answer.shows([2, 3], 1), False)
        answer.number = 5
        self.assertIs(answer.shows([2, 3], 1), True)
        answer.stretches = []
        self.assertIs(answer.shows([2, 3], 1), False)
        answer.stretches = [(0, 1)]
        answer.cuts = [1, 1]
        self.assertIs(answer.shows([2, 3], 1), False)

    def test_most(self):
        answer = fullest([2, 2, 2], 2)
        self.assertIs(answer.shows([2, 2, 2], 2), True)
        answer.places.pop()
        self.assertIs(answer.shows([2, 2, 2], 2), False)
        answer.places.append(2)
        answer.cuts[1] = 1
        self.assertIs(answer.shows([2, 2, 2], 2), False)
        answer.cuts[1] = 2
        self.assertIs(answer.shows([2, 2, 2], 2), True)

    def test_lists_that_an_answer_was_made_of(self):
        cuts, stretches, places = [1], [(0, 1)], [0, 1]
        few, least, most = Fewest(cuts, stretches), Least([], 2, stretches), Most(cuts, places)
        cuts.clear()
        stretches.clear()
        places.append(9)
        self.assertIs(few.shows([1, 1], 1), True)
        self.assertIs(least.shows([1, 1], 1), True)
        self.assertIs(most.shows([1, 1], 1), True)


if __name__ == "__main__":
    unittest.main()
