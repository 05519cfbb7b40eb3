"""Changes of neighbours that a third stone helps [5], [7], [9]."""

from millbrook.errors import Barred
from millbrook.houses import House, check_house
from millbrook.rows import check_place, check_row, check_walk, swapped


def _check_all(row, place, house):
    """Checks the three arguments that most functions of this module take."""
    check_row(row)
    check_place(row, place)
    check_house(house)


def _third_kinds(row, place):
    """The pairs of the index of each third stone of a place and the index of its kind in the order of the kinds."""
    lighter, heavier = sorted(row[place:place + 2])
    letters = [0 if stone < lighter else 1 if stone < heavier else 2 for stone in row]
    behind = [(index, letters[index] + 3) for index in range(place + 2, len(row))]
    return [(index, letters[index]) for index in range(place)] + behind


def _helper_indexes(row, place, house):
    """The indexes of the helpers of a place."""
    return [index for index, kind in _third_kinds(row, place) if house.names_index(kind)]


def _nearness(place, index):
    """The distance of the third stone at an index from the place."""
    return place - index if index < place else index - place - 1


def frees(row, place, house):
    """Tells whether the place is free, without checking the arguments."""
    return len(_helper_indexes(row, place, house)) > 0


def present_kinds(row, place):
    """The indexes of the kinds of the third stones of a place, in the order of the kinds."""
    return sorted({kind for _, kind in _third_kinds(row, place)})


def kinds_at(row, place):
    """The kinds of the third stones at the place, in the order of the kinds."""
    check_row(row)
    check_place(row, place)
    return [House.KINDS[index] for index in present_kinds(row, place)]


def helpers(row, place, house):
    """The helpers of the place in the order of the row."""
    _check_all(row, place, house)
    return [row[index] for index in _helper_indexes(row, place, house)]


def nearest_helper(row, place, house):
    """The helper with the least distance, of two the one before the place; None if barred."""
    _check_all(row, place, house)
    indexes = _helper_indexes(row, place, house)
    if len(indexes) == 0:
        return None
    # The helpers before the place come first, and the first of equal ones is taken.
    return row[min(indexes, key=lambda index: _nearness(place, index))]


def keystone(row, place, house):
    """The only helper of the place, or None if it has none or several."""
    found = helpers(row, place, house)
    return found[0] if len(found) == 1 else None


def is_free(row, place, house):
    """Tells whether the place is free under the house."""
    _check_all(row, place, house)
    return frees(row, place, house)


def free_places(row, house):
    """The free places of the row in ascending order."""
    check_row(row)
    check_house(house)
    return [place for place in range(len(row) - 1) if frees(row, place, house)]


def change_at(row, place, house):
    """The row after the change at the place."""
    _check_all(row, place, house)
    if not frees(row, place, house):
        raise Barred(place, 0)
    return swapped(tuple(row), place)


def rows_along(row, walk, house):
    """Gives the row and the rows after each change of the walk."""
    check_row(row)
    check_walk(row, walk)
    check_house(house)
    present = tuple(row)
    yield present
    for step, place in enumerate(walk):
        if not frees(present, place, house):
            raise Barred(place, step)
        present = swapped(present, place)
        yield present


def after(row, walk, house):
    """The row after the walk."""
    last = ()
    for present in rows_along(row, walk, house):
        last = present
    return last
