"""Rows of stones, the checks of rows, places and walks, and the texts of rows."""

from itertools import permutations

from millbrook.errors import InvalidPlace, InvalidRow, InvalidText, InvalidWalk, InvalidWeight
from millbrook.errors import NoStone, StoneThere, TooMany, UnlikeStones
from millbrook.orders import goal_order, turned_indexes
from millbrook.values import check_number, is_number

MOST_STONES = 40
MOST_WEIGHT = 10**12
MOST_WALK = 20000

_MOST_ORDERED = 7
_EMPTY_TEXT = "empty"


def is_weight(value):
    """Tells whether the value is a weight."""
    return is_number(value, -MOST_WEIGHT, MOST_WEIGHT)


def is_bag_row(value):
    """Tells whether the value is a row in which weights may repeat."""
    if not isinstance(value, (list, tuple)) or len(value) > MOST_STONES:
        return False
    return all([is_weight(item) for item in value])


def is_row(value):
    """Tells whether the value is a row of different weights."""
    return is_bag_row(value) and len(set(value)) == len(value)


def is_place(row, value):
    """Tells whether the value is a place of the row."""
    return is_number(value, 0, len(row) - 2)


def check_weight(weight):
    """Raises InvalidWeight unless this is a weight."""
    if not is_weight(weight):
        raise InvalidWeight(weight)


def check_row(row):
    """Raises InvalidRow unless this is a row."""
    if not is_row(row):
        raise InvalidRow(row)


def check_stones(row, most):
    """Raises TooMany if the row has more stones than the limit that is smaller than 40."""
    if len(row) > most:
        raise TooMany(most, len(row))


def check_place(row, place):
    """Raises InvalidPlace unless this is a place of the row."""
    if not is_place(row, place):
        raise InvalidPlace(place)


def check_walk(row, walk):
    """Raises InvalidWalk unless this is a walk of the row."""
    if not isinstance(walk, (list, tuple)) or len(walk) > MOST_WALK:
        raise InvalidWalk(walk)
    if not all([is_place(row, place) for place in walk]):
        raise InvalidWalk(walk)


def check_alike(first, second):
    """Raises UnlikeStones unless each weight occurs equally often in both rows."""
    if sorted(first) != sorted(second):
        raise UnlikeStones(first, second)


def swapped(row, place):
    """The row, a tuple, with the two neighbours at the place exchanged."""
    return row[:place] + (row[place + 1], row[place]) + row[place + 2:]


def ranks(row):
    """The ranks of the stones in the order of the row."""
    check_row(row)
    return tuple([index + 1 for index in goal_order(row, sorted(row))])


def mirrored_row(row):
    """The row read from the back."""
    check_row(row)
    return tuple(row[::-1])


def flipped_row(row):
    """The row with the stone of rank n + 1 - r in the place of the stone of rank r."""
    check_row(row)
    falling = sorted(row, reverse=True)
    return tuple([falling[index] for index in goal_order(row, sorted(row))])


def turned(first, second):
    """The turned couples of two rows in ascending order."""
    check_row(first)
    check_row(second)
    check_alike(first, second)
    pairs = turned_indexes(goal_order(first, second))
    couples = [(first[index], first[behind]) for index, behind in pairs]
    return sorted([(min(one, other), max(one, other)) for one, other in couples])


def put_in(row, weight, index):
    """The row with a stone of this weight inserted in front of the index."""
    check_row(row)
    check_weight(weight)
    check_number(index, 0, len(row))
    if weight in row:
        raise StoneThere(weight)
    if len(row) == MOST_STONES:
        raise TooMany(MOST_STONES, MOST_STONES + 1)
    stones = tuple(row)
    return stones[:index] + (weight,) + stones[index:]


def taken_out(row, weight):
    """The row without the stone of this weight."""
    check_row(row)
    check_weight(weight)
    if weight not in row:
        raise NoStone(weight)
    return tuple([stone for stone in row if stone != weight])


def _all_orders(stones):
    """All orders of the stones as tuples; ascending stones give them in dictionary order."""
    return list(permutations(stones))


def every_row(stones):
    """Gives all rows of these stones in dictionary order."""
    check_row(stones)
    check_stones(stones, _MOST_ORDERED)
    yield from _all_orders(sorted(stones))


def row_text(row):
    """The text of the row."""
    check_row(row)
    if len(row) == 0:
        return _EMPTY_TEXT
    return " ".join([str(weight) for weight in row])


def _is_integer_text(text):
    """Tells whether this is the decimal notation of an integer that may be a weight."""
    digits = text.removeprefix("-")
    # Longer numbers are no weights, and Python refuses to read very long ones.
    if len(digits) > len(str(MOST_WEIGHT)) or not digits.isascii() or not digits.isdigit():
        return False
    return str(int(text)) == text


def parse_row(text):
    """The row with this text."""
    if not isinstance(text, str):
        raise InvalidText(text)
    parts = [] if text == _EMPTY_TEXT else text.split(" ")
    if not all([_is_integer_text(part) for part in parts]):
        raise InvalidText(text)
    row = tuple([int(part) for part in parts])
    if not is_row(row):
        raise InvalidText(text)
    return row
