"""The sorts of the houses, their grades and carries, and carried rows [24]."""

from millbrook.houses import check_house
from millbrook.rows import check_row, flipped_row, mirrored_row

# The number and the grade of each sort, by the text of its first house.
_SORTS = {
    "l-": (1, "every"),
    "b-": (2, "every"),
    "l-h": (3, "every"),
    "lh-": (4, "every"),
    "lb-": (5, "every"),
    "l-l": (6, "every"),
    "b-l": (7, "none"),
    "b-b": (8, "every"),
    "lbh-": (9, "every"),
    "lb-l": (10, "every"),
    "lh-l": (11, "every"),
    "bh-l": (12, "none"),
    "lb-b": (13, "none"),
    "lh-b": (14, "none"),
    "lbh-l": (15, "some"),
    "lb-lb": (16, "every"),
    "lh-lh": (17, "every"),
    "bh-lb": (18, "none"),
    "lbh-b": (19, "none"),
    "lh-lb": (20, "none"),
    "bh-lbh": (21, "none"),
    "lh-lbh": (22, "none"),
    "lbh-lbh": (23, "every"),
}


def first_house_and_carry(house):
    """The first house of the house's sort and the carry of the house."""
    if house.text in _SORTS:
        return house, "same"
    mirrored = house.mirrored()
    if mirrored.text in _SORTS:
        return mirrored, "mirrored"
    flipped = house.flipped()
    if flipped.text in _SORTS:
        return flipped, "flipped"
    return flipped.mirrored(), "both"


def sort_and_carry(house):
    """The number of the house's sort and the carry of the house."""
    first, carry = first_house_and_carry(house)
    return _SORTS[first.text][0], carry


def grade(house):
    """The grade of the house."""
    first, _ = first_house_and_carry(house)
    return _SORTS[first.text][1]


def carried(row, carry):
    """The row after the operation of the carry; done twice, it gives the row again."""
    turned = flipped_row(row) if carry in ("flipped", "both") else row
    return mirrored_row(turned) if carry in ("mirrored", "both") else tuple(turned)


def sort_of(house):
    """The pair of the number of the house's sort and the carry of the house."""
    check_house(house)
    return sort_and_carry(house)


def grade_of(house):
    """The grade of the house: every, some or none."""
    check_house(house)
    return grade(house)


def carried_row(row, house):
    """The row from which the seal under the house is read."""
    check_row(row)
    check_house(house)
    return carried(row, sort_and_carry(house)[1])
