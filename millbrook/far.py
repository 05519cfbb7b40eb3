"""Far couples: what tame changes never alter [13] to [17]."""

from itertools import combinations

from millbrook.errors import NothingLaid, TooMany
from millbrook.orders import least_walk, turned_indexes
from millbrook.rows import MOST_STONES, check_weight
from millbrook.tame import check_bag_row, check_bag_rows, named_order
from millbrook.values import is_integer


def ends(row, couple):
    """The index of the foremost stone of the lighter weight and of the hindmost of the heavier."""
    lighter, heavier = couple
    return row.index(lighter), len(row) - 1 - row[::-1].index(heavier)


def rising(row):
    """The rising couples of weights in ascending order."""
    check_bag_row(row)
    return sorted({(one, other) for one, other in combinations(row, 2) if one < other})


def covers(one, other):
    """Tells whether the couple one covers the couple other."""
    return one[0] <= other[0] and one[1] >= other[1]


def covered(couple, couples):
    """Tells whether one of the couples covers the couple."""
    return any([covers(one, couple) for one in couples])


def _couples_with(couples, lightest, weight):
    """The far couples after a stone is laid behind a row that has these couples [17]."""
    if weight <= lightest or covered((lightest, weight), couples):
        return couples
    return [(lightest, weight)] + [couple for couple in couples if couple[1] > weight]


def far_of(row):
    """The far couples in ascending order, without checking the bag row."""
    couples = []
    for index, weight in enumerate(row):
        lightest = min(row[:index], default=weight)
        couples = _couples_with(couples, lightest, weight)
    return couples


def far_couples(row):
    """The far couples of the bag row in ascending order."""
    check_bag_row(row)
    return far_of(row)


def _reach_of(row, weight):
    """The reach of a weight of the bag row, or None."""
    foremost = min([index for index, stone in enumerate(row) if stone <= weight])
    heaviest = max(row[foremost:])
    return heaviest if heaviest > weight else None


def reach(row):
    """The pairs of the different weights, in ascending order, and their reaches."""
    check_bag_row(row)
    return [(weight, _reach_of(row, weight)) for weight in sorted(set(row))]


def comes_tame(first, second):
    """Tells whether one bag row comes of the other by tame changes."""
    check_bag_rows(first, second)
    return far_of(first) == far_of(second)


def tame_distance(first, second):
    """The least number of tame changes between the two bag rows, or None."""
    if not comes_tame(first, second):
        return None
    return len(turned_indexes(named_order(first, second)))


def tame_walk(first, second):
    """The least walk that is first in dictionary order, or None."""
    if not comes_tame(first, second):
        return None
    return least_walk(named_order(first, second))


def _parting_papers(holder, row, other):
    """The certificates by the far couples of a row that no far couple of the other one covers."""
    couples = far_of(other)
    apart = [couple for couple in far_of(row) if not covered(couple, couples)]
    return [(holder, couple, *ends(row, couple)) for couple in apart]


def parting_couple(first, second):
    """The certificate that neither bag row comes of the other, or None if one does."""
    if comes_tame(first, second):
        return None
    papers = _parting_papers(0, first, second) + _parting_papers(1, second, first)
    return papers[0]


def _has_form(paper, count):
    """Tells whether the value has the form of a certificate for rows of so many stones."""
    if not isinstance(paper, tuple) or len(paper) != 4:
        return False
    holder, couple, low, high = paper
    if not isinstance(couple, tuple) or len(couple) != 2:
        return False
    if not all([is_integer(item) for item in (holder, *couple, low, high)]):
        return False
    return 0 <= holder <= 1 and couple[0] < couple[1] and 0 <= low < high < count


def _is_parted(row, lighter, heavier):
    """Tells whether no stone so light or lighter stands before one so heavy or heavier."""
    light = [index for index, weight in enumerate(row) if weight <= lighter]
    heavy = [index for index, weight in enumerate(row) if weight >= heavier]
    return all([low > high for low in light for high in heavy])


def shows_parting(first, second, paper):
    """Tells whether the paper is a certificate that neither bag row comes of the other."""
    check_bag_rows(first, second)
    if not _has_form(paper, len(first)):
        return False
    holder, (lighter, heavier), low, high = paper
    row, other = (first, second) if holder == 0 else (second, first)
    if row[low] != lighter or row[high] != heavier:
        return False
    return _is_parted(other, lighter, heavier)


class Brook:
    """A bag row that grows and shrinks at its end."""

    def __init__(self):
        self._stones = []

    @property
    def laid(self):
        """The bag row."""
        return tuple(self._stones)

    @property
    def couples(self):
        """The far couples of the bag row in ascending order."""
        return far_of(self._stones)

    @property
    def lightest(self):
        """The least weight, or None if no stone is laid."""
        return min(self._stones, default=None)

    def lay(self, weight):
        """Lays a stone of this weight behind the others."""
        check_weight(weight)
        if len(self._stones) == MOST_STONES:
            raise TooMany(MOST_STONES, MOST_STONES + 1)
        self._stones.append(weight)

    def lift(self):
        """Takes the last stone away and returns its weight."""
        if len(self._stones) == 0:
            raise NothingLaid()
        return self._stones.pop()
