"""Comparing houses: which join all rows, which are alike, and which join two rows [44] to [46]."""

from itertools import combinations, permutations

from millbrook.counts import class_count
from millbrook.finer import finest_of, texts_of
from millbrook.houses import House, check_house
from millbrook.rows import check_alike, check_row
from millbrook.seals import are_one_class
from millbrook.values import check_number

_MOST_COUNTED = 60
# With fewer stones any two houses are alike; with so many, two houses that are not alike for all numbers differ.
_LEAST_TELLING = 3
_LEAST_JOINING_KINDS = 5


def joins_all(house, stones):
    """Tells whether the house joins all rows of so many stones."""
    # This checks both arguments.
    return class_count(house, stones) == 1


def alike(first, second, stones):
    """Tells whether the two houses have the same classes of rows of so many stones."""
    check_house(first)
    check_house(second)
    check_number(stones, 0, _MOST_COUNTED)
    if stones < _LEAST_TELLING or first == second:
        return True
    return joins_all(first, stones) and joins_all(second, stones)


def _always_alike(first, second):
    """Tells whether the two houses are alike for all numbers of stones."""
    return first == second or min(len(first), len(second)) >= _LEAST_JOINING_KINDS


def parting_rows(first, second):
    """The first two rows of three stones that just one of the houses joins, or None."""
    check_house(first)
    check_house(second)
    if _always_alike(first, second):
        return None
    rows = list(permutations(range(1, _LEAST_TELLING + 1)))
    pairs = [(one, other) for one, other in combinations(rows, 2)
             if are_one_class(one, other, first) != are_one_class(one, other, second)]
    return pairs[0]


def _numbers_joining(first, second):
    """The numbers of the houses under which one row comes of the other."""
    check_row(first)
    check_row(second)
    check_alike(first, second)
    return [house.number for house in House.every() if are_one_class(first, second, house)]


def houses_joining(first, second):
    """The texts of the houses under which one row comes of the other."""
    return texts_of(_numbers_joining(first, second))


def finest_joining(first, second):
    """The texts of the finest of the houses under which one row comes of the other."""
    return finest_of(_numbers_joining(first, second))
