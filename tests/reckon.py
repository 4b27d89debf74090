"""Points [2] to [5] of the document reckoned anew, place by place, and the best of all cuttings by trying each."""

from samples import MOST, all_cuts


def is_row(row):
    return len(row) <= MOST and all(0 <= load <= MOST for load in row)


def is_cutting(row, cuts):
    return cuts == sorted(set(cuts)) and set(cuts) <= set(range(1, len(row)))


def bears(row, places):
    return sum(row[place] for place in places)


def parts(row, cuts):
    """The places of each part."""
    starts = {0, *cuts} if row else set()
    told = []
    for place in range(len(row)):
        if place in starts:
            told.append([])
        told[-1].append(place)
    return told


def part_loads(row, cuts):
    return [bears(row, part) for part in parts(row, cuts)]


def are_wide_and_linked(row, stretches):
    places = range(len(row))
    wide = all(first in places and last in places and last - first >= 1 for first, last in stretches)
    return wide and all(ahead[1] <= behind[0] for ahead, behind in zip(stretches, stretches[1:]))


def stretch_loads(row, stretches):
    return [bears(row, range(first, last + 1)) for first, last in stretches]


def gaps(row, places):
    """The places ahead of the first of those told, between two of them, and behind the last."""
    told = [[]]
    for place in range(len(row)):
        if place in places:
            told.append([])
        else:
            told[-1].append(place)
    return told


def is_fewest(row, bound, cuts, stretches):
    if not is_row(row) or bound < 0 or not is_cutting(row, cuts) or not are_wide_and_linked(row, stretches):
        return False
    light = all(load <= bound for load in part_loads(row, cuts))
    heavy = all(load > bound for load in stretch_loads(row, stretches))
    return light and heavy and len(cuts) == len(stretches)


def is_great(row, bound, place):
    return is_row(row) and bound >= 0 and place in range(len(row)) and row[place] > bound


def is_least(row, count, cuts, number, stretches):
    if not is_row(row) or count < 1 or not is_cutting(row, cuts) or len(parts(row, cuts)) > count:
        return False
    if any(load > number for load in part_loads(row, cuts)):
        return False
    if number == 0 or any(load == number for load in row):
        return True
    if len(stretches) != count or not are_wide_and_linked(row, stretches):
        return False
    return not any(load < number for load in stretch_loads(row, stretches))


def is_most(row, bound, cuts, places):
    if not is_row(row) or bound < 1 or not is_cutting(row, cuts):
        return False
    if places != sorted(set(places)) or not set(places) <= set(range(len(row))):
        return False
    if any(bears(row, gap) >= bound for gap in gaps(row, places)):
        return False
    if not places:
        return cuts == []
    loads = part_loads(row, cuts)
    return len(loads) == len(places) and min(loads) >= bound


def fewest_by_trying(row, bound):
    """The least count of cuts, or None if no cutting will do."""
    return min((len(cuts) for cuts in all_cuts(row) if max(part_loads(row, cuts), default=0) <= bound), default=None)


def lowest_by_trying(row, count):
    return min(max(part_loads(row, cuts), default=0) for cuts in all_cuts(row) if len(cuts) < count)


def fullest_by_trying(row, bound):
    """The greatest count of parts."""
    counts = [len(cuts) + 1 for cuts in all_cuts(row) if row and min(part_loads(row, cuts)) >= bound]
    return max(counts, default=0)
