"""How many classes there are, and how many rows a class has [24], [28]."""

from math import comb, factorial

from millbrook.bound import width
from millbrook.contents import content_of
from millbrook.houses import check_house
from millbrook.rows import check_row
from millbrook.seals import LEAST_CARRIED
from millbrook.sorts import carried, sort_and_carry
from millbrook.trees import has_tree, tree_of
from millbrook.values import check_number
from millbrook.words import count_words

_MOST_COUNTED = 60


def _bell(stones):
    """The number b(n) of [24]."""
    found = [1]
    for many in range(stones):
        found.append(sum([found[k] * comb(many, k) for k in range(many + 1)]))
    return found[-1]


def _classes_of_sort(sort, stones):
    """The number of classes of three or more stones under a house of the sort."""
    if sort == 1:
        return _bell(stones)
    if sort == 2:
        return factorial(2 * stones) // (factorial(stones) * factorial(stones + 1))
    if sort == 3:
        return count_words(stones)
    if sort <= 8:
        return 1 << (stones - 1)
    if sort <= 13:
        return stones
    if sort == 14:
        return 3
    if sort <= 18 or (sort <= 20 and stones == 3):
        return 2
    return 1


def class_count(house, stones):
    """The number of classes of rows of so many stones."""
    check_house(house)
    check_number(stones, 0, _MOST_COUNTED)
    if stones < LEAST_CARRIED:
        return max(stones, 1)
    return _classes_of_sort(sort_and_carry(house)[0], stones)


def _divided(many, parts):
    """The number divided by the product of the parts."""
    left = many
    for part in parts:
        left = left // part
    return left


def _width_with_tree(row, pairs):
    """Sorts 2, 4, 5 and 7: the orders in which each stone stands behind its parent."""
    parent_of = {stone: parent for parent, stone in pairs}
    sizes = {stone: 1 for stone in row}
    # Parents stand before their stones, so the tree of a stone is whole when its turn comes.
    for stone in row[::-1]:
        if stone in parent_of:
            sizes[parent_of[stone]] += sizes[stone]
    return _divided(factorial(len(row)), [sizes[stone] for stone in row])


def _width_with_blocks(row, content):
    """Sort 1: each block has its own orders behind the stone that opens it."""
    many = 1
    for block in content:
        many = many * factorial(len(block) - 1)
    return many


def _width_under_millbrook(row, content):
    """Sort 3: the width of the bag row, which raises TooMany above ten stones."""
    return width(row)


def _width_around_lightest(row, content):
    """Sort 6: all orders of the stones before the lightest one and of those behind it."""
    return factorial(len(content)) * factorial(len(row) - 1 - len(content))


def _width_with_turns(row, content):
    """Sort 8: adds the stones in ascending order and counts the orders by the index of the last one."""
    orders = [1]
    for stone in sorted(row)[:-1]:
        if stone in content:
            orders = [sum(orders[index:]) for index in range(len(orders) + 1)]
        else:
            orders = [sum(orders[:index]) for index in range(len(orders) + 1)]
    return sum(orders)


def _width_behind_front(row, content):
    """Sort 9: the front is fixed."""
    return factorial(len(row) - 1)


def _width_with_lightest_before(row, content):
    """Sort 10: of the stones up to the entry, the entry is first and the lightest stone second."""
    if content[0] is None:
        return factorial(len(row) - 1)
    rank = sorted(row).index(content[0]) + 1
    return _divided(factorial(len(row)), [rank, rank - 1])


def _width_with_heaviest_before(row, content):
    """Sort 11: of the lightest stone and those from the entry on, the entry is first, the lightest second."""
    if content[0] is None:
        return factorial(len(row) - 1)
    rank = sorted(row).index(content[0]) + 1
    return _divided(factorial(len(row)), [len(row) - rank + 2, len(row) - rank + 1])


def _width_with_ascending_front(row, content):
    """Sort 12: behind the front, the orders that do not begin with the next stone."""
    left = len(row) - content[0]
    return factorial(left) - factorial(left - 1) if left > 0 else 1


def _width_with_descending_lightest(row, content):
    """Sort 13: the orders with so many stones descending, without those with one more."""
    many = content[0]
    if many == len(row):
        return 1
    every = factorial(len(row))
    return every // factorial(many) - every // factorial(many + 1)


def _width_of_spiral(row, content):
    """Sort 14: a spiral is alone."""
    return factorial(len(row)) - 2 if content == ("none",) else 1


def _width_with_lightest_in_front(row, content):
    """Sort 15: the front is fixed, or it is not the lightest stone."""
    fixed = factorial(len(row) - 1)
    return fixed if content == ("yes",) else factorial(len(row)) - fixed


def _width_of_half(row, content):
    """Sorts 16 and 17: two stones stand in one of two orders."""
    return factorial(len(row)) // 2


def _width_of_ascending(row, content):
    """Sort 18: the ascending row is alone."""
    return 1 if content == ("yes",) else factorial(len(row)) - 1


def _width_with_middle_in_front(row, content):
    """Sort 19: among three stones the middle one is at the front or not."""
    if len(row) > 3:
        return factorial(len(row))
    return 2 if content == ("yes",) else 4


def _width_of_middle_lightest_heaviest(row, content):
    """Sort 20: among three stones one order is alone."""
    if len(row) > 3:
        return factorial(len(row))
    return 1 if content == ("yes",) else 5


def _width_of_all(row, content):
    """Sorts 21 to 23: all orders."""
    return factorial(len(row))


# By the sort, what counts the rows with the content of a carried row, for the sorts without trees.
_WIDTHS = {
    1: _width_with_blocks,
    3: _width_under_millbrook,
    6: _width_around_lightest,
    8: _width_with_turns,
    9: _width_behind_front,
    10: _width_with_lightest_before,
    11: _width_with_heaviest_before,
    12: _width_with_ascending_front,
    13: _width_with_descending_lightest,
    14: _width_of_spiral,
    15: _width_with_lightest_in_front,
    16: _width_of_half,
    17: _width_of_half,
    18: _width_of_ascending,
    19: _width_with_middle_in_front,
    20: _width_of_middle_lightest_heaviest,
    21: _width_of_all,
    22: _width_of_all,
    23: _width_of_all,
}


def class_width(row, house):
    """The number of rows of the row's class under the house."""
    check_row(row)
    check_house(house)
    if len(row) < LEAST_CARRIED:
        return 1
    sort, carry = sort_and_carry(house)
    turned = carried(row, carry)
    if has_tree(sort):
        return _width_with_tree(turned, tree_of(sort, turned))
    width_of = _WIDTHS[sort]
    return width_of(turned, content_of(sort, turned))
