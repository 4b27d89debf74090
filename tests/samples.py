"""What several test files need: things of other kinds, rows and cuts, and how a call ended."""

import signal
from contextlib import contextmanager
from itertools import combinations, product

MOST = 1000000


class Sour:
    """Refuses whatever it is asked, so that only its kind can be looked at."""

    def sour(self, *args):
        raise RuntimeError("asked")

    __eq__ = __ne__ = __lt__ = __le__ = __gt__ = __ge__ = sour
    __bool__ = __len__ = __iter__ = __getitem__ = __contains__ = sour
    __add__ = __radd__ = __sub__ = __rsub__ = __index__ = __int__ = sour
    __hash__ = None


def no_lists():
    """Things of other kinds than a list, some of which can be walked like one."""
    return [
        None, True, False, 0, 1, -1, 1.5, 1j, "", "1", "1 2", "-", b"", b"12",
        (), (1,), (1, 2), {}, {1: 2}, set(), {1}, frozenset([1]), range(3), bytearray(b"1"),
        iter([1]), (n for n in [1]), enumerate([1]), object(), list, int, len, lambda: [1],
        ValueError("1"), Sour(), Sour,
    ]


def no_whole_numbers():
    return [
        None, True, False, 0.0, 1.0, 1.5, float("nan"), float("inf"), 1j, "", "0", "1", b"1",
        (), (1,), [], [1], {}, {1: 1}, {1}, range(1), object(), int, len, ValueError(1), Sour(), Sour,
    ]


def no_texts():
    return [thing for thing in no_lists() if not isinstance(thing, str)] + [[], ["1"], ["1", "2"], [1, 2], ([], [])]


def below(least):
    return [least - 1, least - 2, -1, -2, -MOST, -10 ** 40]


def no_loads():
    return no_whole_numbers() + [-1, -2, -MOST, -10 ** 40, MOST + 1, MOST + 2, 2 * MOST, 10 ** 40]


def refusal(call, *args):
    """The very class of the error raised by the call, or None if there is none."""
    try:
        call(*args)
    except Exception as error:
        return type(error)
    return None


@contextmanager
def in_good_time(seconds=60):
    """Fails what takes far longer than it should, in the place of waiting for its end."""

    def give_up(number, frame):
        raise AssertionError(f"not done in {seconds} seconds")

    signal.signal(signal.SIGALRM, give_up)
    signal.alarm(seconds)
    try:
        yield
    finally:
        signal.alarm(0)


def small_rows(most_loads, most_load):
    for count in range(most_loads + 1):
        for loads in product(range(most_load + 1), repeat=count):
            yield list(loads)


def all_cuts(row):
    for count in range(max(len(row), 1)):
        for cuts in combinations(range(1, len(row)), count):
            yield list(cuts)
