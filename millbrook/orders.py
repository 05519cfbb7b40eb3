"""Orders: lists of different integers that tell where the stones of a row are to go."""

from itertools import combinations


def goal_order(stones, goal):
    """For each of the stones, in their order, its index among the same stones of the goal."""
    index_of = {stone: index for index, stone in enumerate(goal)}
    return [index_of[stone] for stone in stones]


def turned_indexes(order):
    """The pairs of indexes whose items stand in the wrong order."""
    pairs = list(combinations(range(len(order)), 2))
    return [(index, behind) for index, behind in pairs if order[index] > order[behind]]


def least_walk(order):
    """The places that sort the order if the least place that is turned is changed each time."""
    present = list(order)
    walk = []
    place = 0
    while place < len(present) - 1:
        if present[place] > present[place + 1]:
            present[place], present[place + 1] = present[place + 1], present[place]
            walk.append(place)
            # Only the place before can have become a lesser turned one.
            place = max(place - 1, 0)
        else:
            place += 1
    return walk
