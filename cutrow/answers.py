"""What is told of a row, each answer with what shows that no other cutting is better."""

from cutrow.rows import are_cuts, are_rising_places, is_row, is_whole, is_whole_from, part_sums


def is_pair(value):
    return isinstance(value, tuple) and len(value) == 2 and is_whole(value[0]) and is_whole(value[1])


def are_linked(value, row):
    # Stretches of one place are left out too: no cut can fall within one, so it shows nothing.
    if not isinstance(value, list):
        return False
    end = 0
    for stretch in value:
        if not is_pair(stretch):
            return False
        if stretch[0] < end or stretch[1] <= stretch[0] or stretch[1] >= len(row):
            return False
        end = stretch[1]
    return True


def stretch_sums(row, stretches):
    return [sum(row[stretch[0]:stretch[1] + 1]) for stretch in stretches]


def gap_sums(row, places):
    sums = []
    start = 0
    for place in places:
        sums.append(sum(row[start:place]))
        start = place + 1
    sums.append(sum(row[start:]))
    return sums


def none_above(sums, most):
    return all([bears <= most for bears in sums])


def none_below(sums, least):
    return all([bears >= least for bears in sums])


class Answer:
    pass


class Fewest(Answer):
    def __init__(self, cuts, stretches):
        self.cuts = list(cuts)
        self.stretches = list(stretches)

    def shows(self, row, bound):
        return (
            is_row(row)
            and is_whole_from(bound, 0)
            and are_cuts(self.cuts, row)
            and none_above(part_sums(row, self.cuts), bound)
            and are_linked(self.stretches, row)
            and len(self.stretches) == len(self.cuts)
            and none_below(stretch_sums(row, self.stretches), bound + 1)
        )


class Great(Answer):
    def __init__(self, place):
        self.place = place

    def shows(self, row, bound):
        return (
            is_row(row)
            and is_whole_from(bound, 0)
            and is_whole_from(self.place, 0)
            and self.place < len(row)
            and row[self.place] > bound
        )


class Least(Answer):
    def __init__(self, cuts, number, stretches):
        self.cuts = list(cuts)
        self.number = number
        self.stretches = list(stretches)

    def shows(self, row, count):
        return (
            is_row(row)
            and is_whole_from(count, 1)
            and is_whole(self.number)
            and are_cuts(self.cuts, row)
            # There is one part more than cuts.
            and len(self.cuts) < count
            and none_above(part_sums(row, self.cuts), self.number)
            and self.is_needed(row, count)
        )

    def is_needed(self, row, count):
        # Where the number is 0 or a load, that alone shows it: the stretches aren't asked for.
        if self.number == 0 or self.number in row:
            return True
        return (
            are_linked(self.stretches, row)
            and len(self.stretches) == count
            and none_below(stretch_sums(row, self.stretches), self.number)
        )


class Most(Answer):
    def __init__(self, cuts, places):
        self.cuts = list(cuts)
        self.places = list(places)

    def shows(self, row, bound):
        return (
            is_row(row)
            and is_whole_from(bound, 1)
            and are_cuts(self.cuts, row)
            and are_rising_places(self.places, row, 0)
            and none_above(gap_sums(row, self.places), bound - 1)
            and self.has_full_parts(row, bound)
        )

    def has_full_parts(self, row, bound):
        # Without a place there is no part, not even the whole row.
        if len(self.places) == 0:
            return len(self.cuts) == 0
        return len(self.cuts) + 1 == len(self.places) and none_below(part_sums(row, self.cuts), bound)
