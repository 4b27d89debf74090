"""Cut rows as texts: written, and read back."""

from cutrow.errors import BadText
from cutrow.rows import MOST_LOAD, MOST_LOADS, check_cuts, check_row

FIGURES = "0123456789"
NO_LOADS = "-"
BLANK = " "
BAR = " | "


def written(row, cuts):
    check_row(row)
    check_cuts(cuts, row)
    if len(row) == 0:
        return NO_LOADS
    parts = []
    start = 0
    for cut in cuts + [len(row)]:
        parts.append(BLANK.join([str(load) for load in row[start:cut]]))
        start = cut
    return BAR.join(parts)


def has_needless_nought(word):
    return len(word) > 1 and word[0] == "0"


def is_written_load(word):
    # The length is looked at ahead of the number: Python refuses to reckon with very long figures.
    if len(word) == 0 or len(word) > len(str(MOST_LOAD)) or has_needless_nought(word):
        return False
    for sign in word:
        if sign not in FIGURES:
            return False
    return int(word) <= MOST_LOAD


def read_part(text):
    loads = []
    for word in text.split(BLANK):
        if not is_written_load(word):
            raise BadText("not a load: a whole number from 0 to 1000000 without a needless nought")
        loads.append(int(word))
    return loads


def read(text):
    if not isinstance(text, str):
        raise BadText("not a text")
    if text == NO_LOADS:
        return ([], [])
    row = []
    cuts = []
    for part in text.split(BAR):
        # The first part needs no cut: it begins at the first place.
        if len(row) > 0:
            cuts.append(len(row))
        row.extend(read_part(part))
    if len(row) > MOST_LOADS:
        raise BadText("not a row: more than 1000000 loads")
    return (row, cuts)
