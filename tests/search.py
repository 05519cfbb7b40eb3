"""A search by allowed changes under every house, on rows of few stones.

The kinds at each place are found once for each number of stones, so that all 63 houses can be searched.
Rows are rows of the stones 1 to n; a house is given by its number.
"""

from functools import lru_cache
from itertools import permutations

from tests import plain

KINDS = ("l-", "b-", "h-", "-l", "-b", "-h")


@lru_cache(maxsize=None)
def rows(n):
    """All rows of the stones 1 to n in dictionary order."""
    return list(permutations(range(1, n + 1)))


@lru_cache(maxsize=None)
def graph(n):
    """For each row a list with a pair for each place: the number of the kinds there, and the row after the change."""
    return {row: [(kinds_number(row, place), plain.change(row, place)) for place in range(n - 1)] for row in rows(n)}


def kinds_number(row, place):
    """The number of the house of all kinds at a place."""
    return sum(1 << KINDS.index(kind) for kind in plain.kinds_of(row, place))


def steps(row, number):
    """The pairs of a free place and the row after its change."""
    return [(place, other) for place, (kinds, other) in enumerate(graph(len(row))[row]) if kinds & number]


def distances(row, number):
    """For each row of the class its distance; the nearer ones first."""
    found = {row: 0}
    queue = [row]
    for present in queue:
        for _, other in steps(present, number):
            if other not in found:
                found[other] = found[present] + 1
                queue.append(other)
    return found


@lru_cache(maxsize=None)
def classes(n, number):
    """The classes of the rows of n stones as lists in dictionary order, in the order of their first rows."""
    found, seen = [], set()
    for row in rows(n):
        if row not in seen:
            found.append(sorted(distances(row, number)))
            seen.update(found[-1])
    return found


def least_walk(first, second, number, away):
    """The first shortest walk in dictionary order; `away` are the distances from the second row."""
    walk = []
    while first != second:
        place, first = next(step for step in steps(first, number) if away[step[1]] < away[first])
        walk.append(place)
    return walk


def walk_counts(row, number):
    """For each row of the class the number of shortest walks to it."""
    away = distances(row, number)
    counts = {row: 1}
    for present in away:
        for _, other in steps(present, number):
            if away[other] == away[present] + 1:
                counts[other] = counts.get(other, 0) + counts[present]
    return counts


def one_way_walks(row, number):
    """For each row that is reached one way, the first walk one way in dictionary order."""
    found = {row: []}
    queue = [row]
    for present in queue:
        for place, other in steps(present, number):
            if present[place] < present[place + 1]:
                walk = found[present] + [place]
                if other not in found:
                    queue.append(other)
                found[other] = min(walk, found.get(other, walk))
    return found


def least_costs(row, number, cost):
    """For each row of the class the least cost of a walk to it; `cost` is a function of a couple."""
    found = {row: 0}
    changed = [row]
    while changed:
        present = changed.pop()
        for place, other in steps(present, number):
            total = found[present] + cost(min(present[place:place + 2]), max(present[place:place + 2]))
            if other not in found or total < found[other]:
                found[other] = total
                changed.append(other)
    return found


def leads(first, walk, second, number):
    """Tells whether the walk leads from the first row to the second one by allowed changes."""
    for place in walk:
        kinds, other = graph(len(first))[first][place]
        if not kinds & number:
            return False
        first = other
    return first == second
