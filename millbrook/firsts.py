"""The first row of a class in dictionary order [30].

For each sort there are pairs of stones that stand in the same order in all rows of a class. For most sorts
the class consists of all rows that keep these pairs; for the others some of these rows are left out, but then
the first row of the class is the first one that keeps the pairs, or that one with one place changed.
"""

from millbrook.bound import bound_pairs
from millbrook.contents import content_of
from millbrook.houses import check_house
from millbrook.rows import check_row, swapped
from millbrook.seals import LEAST_CARRIED, seal_of
from millbrook.sorts import carried, sort_and_carry
from millbrook.trees import has_tree, tree_of


def _chain(row):
    """The pairs that fix the order of all these stones."""
    return list(zip(row, row[1:]))


def _ahead(stone, others):
    """The pairs that put the stone before the others."""
    return [(stone, other) for other in others if other != stone]


def _behind(stone, others):
    """The pairs that put the stone behind the others."""
    return [(other, stone) for other in others if other != stone]


def _in_order(row, couple):
    """The two stones in the order in which they stand in the row."""
    one, other = couple
    return (one, other) if row.index(one) < row.index(other) else (other, one)


def _kept_by_blocks(row, content):
    """Sort 1: each block behind the one before it, and behind the stone that opens it."""
    pairs = []
    for block in content:
        pairs += _ahead(block[0], block)
    for block, following in _chain(content):
        pairs += _behind(following[0], block)
    return pairs


def _kept_under_millbrook(row, content):
    """Sort 3: the bound pairs."""
    return [(row[index], row[behind]) for index, behind in bound_pairs(row)]


def _kept_around_lightest(row, content):
    """Sort 6: the stones on each side of the lightest one."""
    behind = [stone for stone in row if stone not in content]
    return _behind(min(row), content) + _ahead(min(row), behind)


def _kept_turns(row, content):
    """Sort 8: the order of each stone and the next heavier one."""
    return [_in_order(row, couple) for couple in _chain(sorted(row))]


def _kept_front(row, content):
    """Sort 9: the stone at the front."""
    return _ahead(row[0], row)


def _kept_lightest_before(row, content):
    """Sort 10: the entry before the lightest stone, the stones between them in weight behind it."""
    if content[0] is None:
        return _ahead(min(row), row)
    later = [stone for stone in row if stone < content[0]]
    return [(content[0], min(row))] + _ahead(min(row), later)


def _kept_heaviest_before(row, content):
    """Sort 11: the entry before the lightest stone, the heavier stones behind it."""
    if content[0] is None:
        return _ahead(min(row), row)
    later = [stone for stone in row if stone > content[0]]
    return [(content[0], min(row))] + _ahead(min(row), later)


def _kept_ascending_front(row, content):
    """Sort 12: the stones of the ascending front, before all others."""
    front = row[:content[0]]
    pairs = []
    for index, stone in enumerate(front):
        pairs += _ahead(stone, row[index:])
    return pairs


def _kept_descending_lightest(row, content):
    """Sort 13: the descending lightest stones, and the next heavier stone behind the first of them."""
    stones = sorted(row)
    many = content[0]
    return _chain(stones[:many][::-1]) + _chain(stones[many - 1:many + 1])


def _kept_if_spiral(row, content):
    """Sort 14: a spiral is alone."""
    return [] if content == ("none",) else _chain(row)


def _kept_if_in_front(row, content):
    """Sorts 15 and 19: the stone at the front, if it tells the class."""
    return _ahead(row[0], row) if content == ("yes",) else []


def _kept_if_alone(row, content):
    """Sorts 18 and 20: the whole row, if it is alone."""
    return _chain(row) if content == ("yes",) else []


def _kept_lightest_two(row, content):
    """Sort 16: the order of the two lightest stones."""
    return [_in_order(row, sorted(row)[:2])]


def _kept_outermost_two(row, content):
    """Sort 17: the order of the lightest and the heaviest stone."""
    return [_in_order(row, (min(row), max(row)))]


def _kept_nothing(row, content):
    """Sorts 21 to 23: all orders."""
    return []


# By the sort, what gives the kept pairs of a carried row, for the sorts without trees.
_KEPT = {
    1: _kept_by_blocks,
    3: _kept_under_millbrook,
    6: _kept_around_lightest,
    8: _kept_turns,
    9: _kept_front,
    10: _kept_lightest_before,
    11: _kept_heaviest_before,
    12: _kept_ascending_front,
    13: _kept_descending_lightest,
    14: _kept_if_spiral,
    15: _kept_if_in_front,
    16: _kept_lightest_two,
    17: _kept_outermost_two,
    18: _kept_if_alone,
    19: _kept_if_in_front,
    20: _kept_if_alone,
    21: _kept_nothing,
    22: _kept_nothing,
    23: _kept_nothing,
}


def _kept_in_carried(sort, row):
    """The kept pairs of a carried row."""
    if has_tree(sort):
        return tree_of(sort, row)
    kept = _KEPT[sort]
    return kept(row, content_of(sort, row))


def _carried_back(pairs, stones, carry):
    """The pairs of a row whose carried row has these pairs."""
    if carry in ("flipped", "both"):
        flips = dict(zip(sorted(stones), sorted(stones, reverse=True)))
        pairs = [(flips[one], flips[other]) for one, other in pairs]
    return [pair[::-1] for pair in pairs] if carry in ("mirrored", "both") else pairs


def _kept_pairs(row, house):
    """The kept pairs of the row under the house: the first stone stands before the second one."""
    sort, carry = sort_and_carry(house)
    return _carried_back(_kept_in_carried(sort, carried(row, carry)), row, carry)


def _next_stone(left, pairs):
    """The lightest of the stones that are left that has no stone before it among them."""
    waiting = {other: True for one, other in pairs if one in left}
    return min([stone for stone in left if stone not in waiting])


def _first_order(stones, pairs):
    """The first order of the stones in dictionary order that keeps the pairs."""
    left = list(stones)
    found = []
    while len(left) > 0:
        found.append(_next_stone(left, pairs))
        left = [stone for stone in left if stone != found[-1]]
    return tuple(found)


def first_of_class(row, house):
    """The first row of the row's class under the house."""
    check_row(row)
    check_house(house)
    if len(row) < LEAST_CARRIED:
        return tuple(row)
    first = _first_order(row, _kept_pairs(row, house))
    goal = seal_of(row, house)
    if seal_of(first, house) == goal:
        return first
    near = [swapped(first, place) for place in range(len(row) - 1)]
    return min([other for other in near if seal_of(other, house) == goal])
