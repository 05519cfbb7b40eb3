"""What must stand before what in the bag rows that come of one, and their numbers [21], [22]."""

from itertools import combinations

from millbrook.far import covered, ends, far_of
from millbrook.rows import check_stones
from millbrook.tame import check_bag_row
from millbrook.values import check_number

_MOST_NUMBERED = 10


def _told_pairs(row):
    """The pairs of indexes that the three rules bind directly, in ascending order."""
    couples = far_of(row)
    outer = [ends(row, couple) for couple in couples]
    return [
        (index, behind)
        for index, behind in combinations(range(len(row)), 2)
        if row[index] == row[behind]
        or (index, behind) in outer
        or (row[index] > row[behind] and not covered((row[behind], row[index]), couples))
    ]


def _forerunners(row):
    """For each index the indexes bound before it, as the sum of 1 << index over them."""
    needs = [0] * len(row)
    # The first index of a pair has all its forerunners when the turn of the pair comes.
    for index, behind in _told_pairs(row):
        needs[behind] = needs[behind] | needs[index] | (1 << index)
    return needs


def _ready(needs, placed):
    """The indexes that may come next when those of the sum have been placed."""
    missing = [index for index in range(len(needs)) if (placed >> index) & 1 == 0]
    return [index for index in missing if (needs[index] | placed) == placed]


def _endings(needs):
    """For each sum of placed indexes, in how many orders the others can follow."""
    endings = [0] * (1 << len(needs))
    endings[-1] = 1
    for placed in range(len(endings) - 2, -1, -1):
        endings[placed] = sum([endings[placed | (1 << index)] for index in _ready(needs, placed)])
    return endings


def _next_ways(needs, endings, placed):
    """For each index that may come next, in how many orders the others can follow it."""
    return {index: endings[placed | (1 << index)] for index in _ready(needs, placed)}


def _lighter_ways(row, index, ways):
    """In how many of the orders a stone comes next that is lighter than that at the index."""
    return sum([many for other, many in ways.items() if row[other] < row[index]])


def _check_numbered(row):
    """Checks a bag row that must be short enough for numbers."""
    check_bag_row(row)
    check_stones(row, _MOST_NUMBERED)


def bound_pairs(row):
    """The bound pairs of indexes in ascending order."""
    check_bag_row(row)
    needs = _forerunners(row)
    pairs = list(combinations(range(len(row)), 2))
    return [(index, behind) for index, behind in pairs if (needs[behind] >> index) & 1 == 1]


def width(row):
    """The number of bag rows that come of the row, itself included."""
    _check_numbered(row)
    return _endings(_forerunners(row))[0]


def row_index(row):
    """The number of the row among the bag rows that come of it."""
    _check_numbered(row)
    needs = _forerunners(row)
    endings = _endings(needs)
    number = 0
    placed = 0
    for index in range(len(row)):
        number += _lighter_ways(row, index, _next_ways(needs, endings, placed))
        placed = placed | (1 << index)
    return number


def row_at(row, index):
    """The bag row with this number among those that come of the row."""
    _check_numbered(row)
    needs = _forerunners(row)
    endings = _endings(needs)
    check_number(index, 0, endings[0] - 1)
    found = []
    placed = 0
    left = index
    while len(found) < len(row):
        ways = _next_ways(needs, endings, placed)
        fitting = [other for other in ways if _lighter_ways(row, other, ways) <= left]
        chosen = max(fitting, key=lambda other: row[other])
        left -= _lighter_ways(row, chosen, ways)
        placed = placed | (1 << chosen)
        found.append(row[chosen])
    return tuple(found)


def first_tame(row):
    """The first bag row in dictionary order of those that come of the row."""
    check_bag_row(row)
    needs = _forerunners(row)
    found = []
    placed = 0
    while len(found) < len(row):
        chosen = min(_ready(needs, placed), key=lambda index: row[index])
        placed = placed | (1 << chosen)
        found.append(row[chosen])
    return tuple(found)
