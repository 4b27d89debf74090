"""Cuttings of a row: into the fewest parts, with the lowest greatest part, and into the most full parts."""

from cutrow.answers import Fewest, Great, Least, Most
from cutrow.errors import BadNumber
from cutrow.rows import check_row, is_whole_from


def check_number(value, least):
    if not is_whole_from(value, least):
        raise BadNumber(f"not a whole number from {least} on")


def needed_cuts(row, bound):
    # No load may be more than the bound. A part is cut only where the next load would be too much for it.
    cuts = []
    bears = 0
    for place, load in enumerate(row):
        bears = bears + load
        if bears > bound:
            cuts.append(place)
            bears = load
    return cuts


def needing_stretches(cuts):
    # A part and the load behind it are too much together: that is why needed_cuts cut there.
    return list(zip([0] + cuts, cuts))


def first_above(row, bound):
    for place, load in enumerate(row):
        if load > bound:
            return place
    return None


def fewest(row, bound):
    check_row(row)
    check_number(bound, 0)
    place = first_above(row, bound)
    if place is not None:
        return Great(place)
    cuts = needed_cuts(row, bound)
    return Fewest(cuts, needing_stretches(cuts))


def least_number(row, count):
    greatest = max(row, default=0)
    mean = -(-sum(row) // count)
    low = max(greatest, mean)
    # Always enough: each part that a cut ends bears more than the mean then, so there are fewer cuts than the count.
    high = greatest + mean
    while low < high:
        middle = (low + high) // 2
        if len(needed_cuts(row, middle)) < count:
            high = middle
        else:
            low = middle + 1
    return low


def lowest(row, count):
    check_row(row)
    check_number(count, 1)
    number = least_number(row, count)
    stretches = []
    if number > 0 and number not in row:
        # One less is too little for that many parts, so there are at least as many such stretches as the count.
        stretches = needing_stretches(needed_cuts(row, number - 1))[:count]
    return Least(needed_cuts(row, number), number, stretches)


def filling_places(row, bound):
    places = []
    bears = 0
    for place, load in enumerate(row):
        bears = bears + load
        if bears >= bound:
            places.append(place)
            bears = 0
    return places


def fullest(row, bound):
    check_row(row)
    check_number(bound, 1)
    places = filling_places(row, bound)
    # A part ends where it is full, but the last one: it takes the rest of the row too.
    return Most([place + 1 for place in places[:-1]], places)
