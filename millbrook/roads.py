"""Distances, shortest walks, walks of any length and walks one way [31] to [34]."""

from millbrook.changes import frees
from millbrook.errors import NoExactDistance
from millbrook.leads import places_to_goal
from millbrook.orders import goal_order, least_walk, turned_indexes
from millbrook.plain import MOST_SEARCHED, changes_of, distances_from
from millbrook.rows import check_stones, swapped
from millbrook.seals import are_one_class, check_pair
from millbrook.sorts import carried, first_house_and_carry, grade


def _check_searched(row, house):
    """Raises TooMany if the house asks for a search and the row is too long for one."""
    if grade(house) == "none":
        check_stones(row, MOST_SEARCHED)


def _least_free_turned(row, goal, house):
    """The least free place whose neighbours are turned between the row and the goal."""
    order = goal_order(row, goal)
    place = 0
    while order[place] < order[place + 1] or not frees(row, place, house):
        place += 1
    return place


def _walk_by_free_places(first, second, house):
    """The walk that takes the least free place with turned neighbours each time."""
    present, goal = tuple(first), tuple(second)
    walk = []
    while present != goal:
        walk.append(_least_free_turned(present, goal, house))
        present = swapped(present, walk[-1])
    return walk


def _walk_by_search(first, second, house):
    """The first shortest walk in dictionary order, found by trying all changes from the goal."""
    away = distances_from(second, house)
    present = tuple(first)
    walk = []
    while away[present] > 0:
        nearer = [(place, row) for place, row in changes_of(present, house) if away[row] < away[present]]
        place, present = nearer[0]
        walk.append(place)
    return walk


def _shortest_of_class(first, second, house):
    """The shortest walk between two rows of one class that is first in dictionary order."""
    told = grade(house)
    if told == "every":
        return least_walk(goal_order(first, second))
    if told == "some":
        return _walk_by_free_places(first, second, house)
    return _walk_by_search(first, second, house)


def _walk_by_leads(first, second, house):
    """A walk between two rows of one class under a house of the grade none."""
    if tuple(first) == tuple(second):
        return []
    leading, carry = first_house_and_carry(house)
    back = places_to_goal(carried(second, carry), leading)[::-1]
    walk = places_to_goal(carried(first, carry), leading) + back
    if carry in ("mirrored", "both"):
        return [len(first) - 2 - place for place in walk]
    return walk


def distance(first, second, house):
    """The least number of changes that lead from one row to the other, or None."""
    check_pair(first, second, house)
    _check_searched(first, house)
    if not are_one_class(first, second, house):
        return None
    if grade(house) == "none":
        return distances_from(first, house)[tuple(second)]
    return len(turned_indexes(goal_order(first, second)))


def shortest(first, second, house):
    """The shortest walk from the first row to the second one that is first in dictionary order, or None."""
    check_pair(first, second, house)
    _check_searched(first, house)
    if not are_one_class(first, second, house):
        return None
    return _shortest_of_class(first, second, house)


def road(first, second, house):
    """A walk from the first row to the second one, or None if neither comes of the other."""
    check_pair(first, second, house)
    if not are_one_class(first, second, house):
        return None
    if grade(house) == "none":
        return _walk_by_leads(first, second, house)
    return _shortest_of_class(first, second, house)


def one_way(first, second, house):
    """The first walk in dictionary order that leads one way from the first row to the second, or None."""
    check_pair(first, second, house)
    if grade(house) != "every":
        raise NoExactDistance(house)
    order = goal_order(first, second)
    if any([first[index] > first[behind] for index, behind in turned_indexes(order)]):
        return None
    return least_walk(order) if are_one_class(first, second, house) else None
