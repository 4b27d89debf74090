"""Rows of loads and their cuts: what they are, what the parts bear, and the evenest parting."""

from cutrow.errors import BadCuts, BadRow

MOST_LOAD = 1000000
MOST_LOADS = 1000000


def is_whole(value):
    # Python counts True and False as whole numbers; the program does not.
    return isinstance(value, int) and not isinstance(value, bool)


def is_whole_from(value, least):
    return is_whole(value) and value >= least


def is_load(value):
    return is_whole_from(value, 0) and value <= MOST_LOAD


def is_row(value):
    if not isinstance(value, list) or len(value) > MOST_LOADS:
        return False
    for load in value:
        if not is_load(load):
            return False
    return True


def are_rising_places(value, row, least):
    if not isinstance(value, list):
        return False
    free = least
    for place in value:
        if not is_whole_from(place, free) or place >= len(row):
            return False
        free = place + 1
    return True


def are_cuts(value, row):
    # The first place begins a part by itself, so no cut stands there.
    return are_rising_places(value, row, 1)


def check_row(value):
    if not is_row(value):
        raise BadRow("not a row: a list of up to 1000000 whole numbers from 0 to 1000000")


def check_cuts(value, row):
    if not are_cuts(value, row):
        raise BadCuts("not cuts of the row: a list of rising places of it, none the first")


def part_sums(row, cuts):
    # A row of none has no parts, where any other row has one more than cuts.
    if len(row) == 0:
        return []
    sums = []
    start = 0
    for cut in cuts:
        sums.append(sum(row[start:cut]))
        start = cut
    sums.append(sum(row[start:]))
    return sums


def borne(row, cuts):
    check_row(row)
    check_cuts(cuts, row)
    return part_sums(row, cuts)


def halved(row):
    check_row(row)
    whole = sum(row)
    ahead = 0
    best = 0
    least = whole
    for place, load in enumerate(row, start=1):
        ahead = ahead + load
        # The rest is whole - ahead, so this is how far the two differ.
        apart = abs(whole - 2 * ahead)
        # Only a smaller one counts: of equal ones the least place stays.
        if apart < least:
            best = place
            least = apart
    return best
