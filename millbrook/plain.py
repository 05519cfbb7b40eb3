"""Plain search: a whole class of rows of at most six stones, found by trying all changes [34], [35]."""

from millbrook.changes import frees
from millbrook.houses import check_house
from millbrook.rows import check_alike, check_row, check_stones, swapped

MOST_SEARCHED = 6


def _check_short(row):
    """Checks a row that must be short enough for a search."""
    check_row(row)
    check_stones(row, MOST_SEARCHED)


def _check_short_pair(first, second, house):
    """Checks two short rows and a house; the rows must hold the same stones."""
    _check_short(first)
    _check_short(second)
    check_house(house)
    check_alike(first, second)


def changes_of(row, house):
    """The pairs of a free place and the row after its change, without checking the arguments."""
    return [(place, swapped(row, place)) for place in range(len(row) - 1) if frees(row, place, house)]


def distances_from(row, house):
    """For each row of the class its distance from the row; the nearer rows come first."""
    found = {tuple(row): 0}
    layer = list(found)
    away = 0
    while len(layer) > 0:
        away += 1
        reached = [other for present in layer for _, other in changes_of(present, house)]
        layer = list({other: True for other in reached if other not in found})
        for other in layer:
            found[other] = away
    return found


def plain_class(row, house):
    """The rows of the class in dictionary order."""
    _check_short(row)
    check_house(house)
    return sorted(distances_from(row, house))


def plain_distance(first, second, house):
    """The distance of the two rows, or None."""
    _check_short_pair(first, second, house)
    return distances_from(first, house).get(tuple(second))


def count_walks(first, second, house):
    """The number of shortest walks from the first row to the second one."""
    _check_short_pair(first, second, house)
    away = distances_from(first, house)
    # The nearer rows come first, so those from which a row is reached have been counted.
    walks = {tuple(first): 1}
    for row in list(away)[1:]:
        nearer = [other for _, other in changes_of(row, house) if away[other] < away[row]]
        walks[row] = sum([walks[other] for other in nearer])
    return walks.get(tuple(second), 0)


def farthest(row, house):
    """The greatest distance from the row in its class and the rows at this distance in dictionary order."""
    _check_short(row)
    check_house(house)
    away = distances_from(row, house)
    most = max(list(away.values()))
    return most, sorted([other for other in away if away[other] == most])
