"""The seals of rows under the 63 houses, and where two of them differ [25] to [27]."""

from millbrook.contents import content_of
from millbrook.houses import check_house
from millbrook.rows import check_alike, check_row
from millbrook.sorts import carried, sort_and_carry

# From so many stones on the seal is read from the carried row.
LEAST_CARRIED = 3
# What stands in the place of an entry that a content does not have.
_END = "end"


def seal_of(row, house):
    """The seal of the row, without checking the arguments."""
    if len(row) < LEAST_CARRIED:
        return 0, tuple(row)
    sort, carry = sort_and_carry(house)
    return sort, content_of(sort, carried(row, carry))


def are_one_class(first, second, house):
    """Tells whether one row comes of the other, without checking the arguments."""
    return seal_of(first, house) == seal_of(second, house)


def check_pair(first, second, house):
    """Checks two rows and a house; the rows must hold the same stones."""
    check_row(first)
    check_row(second)
    check_house(house)
    check_alike(first, second)


def entry_at(content, index):
    """The entry of a content at the index, or what stands in the place of a missing one."""
    return content[index] if index < len(content) else _END


def seal(row, house):
    """The seal of the row under the house."""
    check_row(row)
    check_house(house)
    return seal_of(row, house)


def comes(first, second, house):
    """Tells whether one row comes of the other under the house."""
    check_pair(first, second, house)
    return are_one_class(first, second, house)


def seal_parting(first, second, house):
    """The first index at which the contents of the seals differ and the two entries there, or None."""
    check_pair(first, second, house)
    one, other = seal_of(first, house)[1], seal_of(second, house)[1]
    if one == other:
        return None
    index = 0
    while entry_at(one, index) == entry_at(other, index):
        index += 1
    return index, entry_at(one, index), entry_at(other, index)
