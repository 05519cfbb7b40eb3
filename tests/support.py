"""What several tests share: wrong values of every kind, a check of errors, and long rows."""

import inspect
import random
import unittest

from millbrook.changes import change_at, free_places
from millbrook.errors import MillError

TOP = 10**12


class Odd:
    """An object of a kind that the program does not know."""


class Anything:
    """An object that says it is equal to every value."""

    def __eq__(self, other):
        return True

    def __hash__(self):
        return 0


def _some():
    yield 1


NOT_INTEGERS = (
    None, True, False, 0.0, 1.0, 2.5, float("nan"), float("inf"), 1j, "", "1", "l-h", b"1",
    [], [1], (), (1,), {}, {1: 2}, {1}, range(2), Odd, Odd(), Anything(), len,
)

NOT_LISTS = (
    None, True, False, 0, 1, -1, 1.0, "", "1", "123", "empty", b"123", {}, {1: 2}, {1, 2},
    range(3), Odd, Odd(), Anything(), len, iter([1, 2]), _some(),
)

NOT_WEIGHTS = NOT_INTEGERS + (TOP + 1, -TOP - 1, 10**5000)

NOT_BAG_ROWS = NOT_LISTS + tuple(
    kind(items)
    for kind in (list, tuple)
    for items in ([None], [True], [0, False], [1.0], [1, 2.0], ["1"], [[1]], [(1,)], [{}], [1, None],
                  [TOP + 1], [-TOP - 1], [1, 10**5000], [float("nan")], range(41), [7] * 41)
)

NOT_ROWS = NOT_BAG_ROWS + ([1, 1], (1, 1), [2, 1, 2], (0, -0), (5, 6, 7, 8, 5), [TOP, -TOP, TOP])

NOT_TEXTS = (None, True, False, 0, 1.0, b"l-h", b"", ["l-h"], ("l-h",), {}, {"l-h"}, Odd, Odd(), Anything(), len)

BAD_HOUSE_TEXTS = (
    "", "-", "--", "l", "h", "lbh", "l--h", "-l-", "l-h-", "ll-", "-hh", "bl-", "hl-", "hb-", "lhb-",
    "-bl", "-hlb", "L-H", "l-H", " l-h", "l-h ", "l -h", "l- h", "l-h\n", "\nl-h", "l\u2013h",
    "l\u2212h", "x-", "-x", "lx-h", "l_h", "l-h\0", "l-hl-h", "l" * 1000 + "-", "-" * 1000,
)


def not_houses():
    """Values that are no houses; a text of a house is none either."""
    return NOT_TEXTS + ("l-h", "-", 33, [33])


def same(one, other):
    """Tells whether two values are the same one or equal ones of the same kind."""
    return one is other or (type(one) is type(other) and one == other)


def drawn_walk(row, house, changes, seed):
    """A row that comes of the row by drawn allowed changes, equal seeds draw equal ones, and their places."""
    source = random.Random(seed)
    walk = []
    for _ in range(changes):
        places = free_places(row, house)
        if places:
            walk.append(source.choice(places))
            row = change_at(row, walk[-1], house)
    return tuple(row), walk


class MillTest(unittest.TestCase):
    """A test case that can check errors together with their attributes."""

    def check_error(self, error, function, *values, **keywords):
        """The call raises an error of this very class with these very attributes."""
        with self.assertRaises(MillError) as caught:
            result = function(*values, **keywords)
            if inspect.isgenerator(result):
                next(result)
        self.assertIs(type(caught.exception), type(error))
        told = vars(caught.exception)
        self.assertEqual(list(told), list(vars(error)))
        for name, value in vars(error).items():
            self.assertTrue(same(told[name], value), (name, told[name], value))

    def check_kinds(self, value, pattern):
        """The value is equal to the pattern and of the same kinds all the way down."""
        self.assertEqual(value, pattern)
        self.assertIs(type(value), type(pattern), value)
        if isinstance(value, (list, tuple)):
            for item, part in zip(value, pattern):
                self.check_kinds(item, part)


def shuffled(items, step):
    """All items in an order that jumps by the step, which has no divisor in common with len."""
    items = list(items)
    return tuple(items[index * step % len(items)] for index in range(len(items)))


LONG_ROWS = (
    tuple(range(40)), tuple(range(40))[::-1], shuffled(range(-20, 20), 7), shuffled(range(40), 17),
    shuffled([TOP - 3 * index for index in range(20)] + [-TOP + index for index in range(20)], 11),
)
LONG_BAG_ROWS = LONG_ROWS + (
    shuffled([index // 2 for index in range(40)], 7), shuffled([index % 5 for index in range(40)], 13),
    shuffled([index // 13 for index in range(40)], 9), (5,) * 40, (-TOP,) * 20 + (TOP,) * 20,
)
SHORT_BAG_ROWS = (
    tuple(range(10)), tuple(range(10))[::-1], shuffled(range(10), 3), shuffled(range(10), 7),
    shuffled([index // 2 for index in range(10)], 3), shuffled([0, 0, 0, 1, 2, 2, 2, 3, 4, 4], 7),
    (5,) * 10, (TOP,) * 5 + (-TOP,) * 5, (-TOP,) * 5 + (TOP,) * 5,
)
