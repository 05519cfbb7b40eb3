"""Bag rows: rows with equal weights under Millbrook, the house l-h [11], [12]."""

from millbrook.errors import Barred, InvalidRow
from millbrook.orders import goal_order, turned_indexes
from millbrook.rows import check_alike, check_place, check_walk, is_bag_row, swapped


def check_bag_row(row):
    """Raises InvalidRow unless this is a bag row."""
    if not is_bag_row(row):
        raise InvalidRow(row)


def check_bag_rows(first, second):
    """Checks two bag rows that must hold the same stones."""
    check_bag_row(first)
    check_bag_row(second)
    check_alike(first, second)


def _tames(row, place):
    """Tells whether the place is tame, without checking the arguments."""
    lighter, heavier = sorted(row[place:place + 2])
    if lighter == heavier:
        return False
    if any([weight <= lighter for weight in row[:place]]):
        return True
    return any([weight >= heavier for weight in row[place + 2:]])


def named(row):
    """The named stones in the order of the row, without checking the row."""
    count = {}
    stones = []
    for weight in row:
        count[weight] = count.get(weight, 0) + 1
        stones.append((weight, count[weight]))
    return stones


def named_order(first, second):
    """For each named stone of the first bag row its index in the second one."""
    return goal_order(named(first), named(second))


def is_tame(row, place):
    """Tells whether the place is tame."""
    check_bag_row(row)
    check_place(row, place)
    return _tames(row, place)


def tame_places(row):
    """The tame places of the bag row in ascending order."""
    check_bag_row(row)
    return [place for place in range(len(row) - 1) if _tames(row, place)]


def tame_change(row, place):
    """The bag row after the change at the place."""
    check_bag_row(row)
    check_place(row, place)
    if not _tames(row, place):
        raise Barred(place, 0)
    return swapped(tuple(row), place)


def tame_after(row, walk):
    """The bag row after the walk."""
    check_bag_row(row)
    check_walk(row, walk)
    present = tuple(row)
    for step, place in enumerate(walk):
        if not _tames(present, place):
            raise Barred(place, step)
        present = swapped(present, place)
    return present


def named_stones(row):
    """The named stones in the order of the bag row."""
    check_bag_row(row)
    return named(row)


def named_turned(first, second):
    """The turned pairs of named stones, the lighter one first, in ascending order."""
    check_bag_rows(first, second)
    stones = named(first)
    pairs = turned_indexes(named_order(first, second))
    couples = [(stones[index], stones[behind]) for index, behind in pairs]
    return sorted([(min(one, other), max(one, other)) for one, other in couples])
