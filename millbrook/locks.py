"""Locks: several houses and books at once [47]."""

from millbrook.books import Book, first_difference
from millbrook.changes import frees
from millbrook.errors import Barred, InvalidKeeper, NoExactDistance
from millbrook.houses import House
from millbrook.orders import goal_order, least_walk
from millbrook.rows import check_alike, check_place, check_row, swapped
from millbrook.seals import seal_of
from millbrook.sorts import grade


def _check_keeper(keeper):
    """Raises an error unless this is a book or a house of the grade every."""
    if not isinstance(keeper, (House, Book)):
        raise InvalidKeeper(keeper)
    if isinstance(keeper, House) and grade(keeper) != "every":
        raise NoExactDistance(keeper)


def _copied(keeper):
    """The keeper as a lock keeps it: a book as a copy."""
    return keeper.twin() if isinstance(keeper, Book) else keeper


def _keeps_open(keeper, row, place):
    """Tells whether the keeper allows the place."""
    return keeper.lets(row, place) if isinstance(keeper, Book) else frees(row, place, keeper)


def _seal_under(keeper, row):
    """The seal or the book seal of the row under the keeper."""
    return keeper.seal_of_held(row) if isinstance(keeper, Book) else seal_of(row, keeper)


class Lock:
    """A lock with these keepers, each a book or a house of the grade every."""

    def __init__(self, *keepers):
        for keeper in keepers:
            _check_keeper(keeper)
        self._keepers = [_copied(keeper) for keeper in keepers]

    def _check_held(self, row):
        """Raises UnlikeStones unless the row, which has been checked, holds the stones of all books."""
        for keeper in self._keepers:
            if isinstance(keeper, Book):
                keeper.check_held(row)

    def _lets(self, row, place):
        """Tells whether the place is allowed, without checking the arguments."""
        return all([_keeps_open(keeper, row, place) for keeper in self._keepers])

    def allows(self, row, place):
        """Tells whether each keeper allows the place."""
        check_row(row)
        check_place(row, place)
        self._check_held(row)
        return self._lets(row, place)

    def allowed(self, row):
        """The allowed places of the row in ascending order."""
        check_row(row)
        self._check_held(row)
        return [place for place in range(len(row) - 1) if self._lets(row, place)]

    def changed(self, row, place):
        """The row after the change at the place."""
        if not self.allows(row, place):
            raise Barred(place, 0)
        return swapped(tuple(row), place)

    def joins(self, first, second):
        """Tells whether the two rows have the same seals under all keepers."""
        return self.parting(first, second) is None

    def road(self, first, second):
        """The least walk from the first row to the second one that is first in dictionary order, or None."""
        if not self.joins(first, second):
            return None
        return least_walk(goal_order(first, second))

    def parting(self, first, second):
        """The index of the first keeper under which the two rows have different seals, or None."""
        check_row(first)
        check_row(second)
        check_alike(first, second)
        self._check_held(first)
        seals = [_seal_under(keeper, first) for keeper in self._keepers]
        return first_difference(seals, [_seal_under(keeper, second) for keeper in self._keepers])

    def __len__(self):
        return len(self._keepers)

    def __add__(self, other):
        return Lock(*self._keepers, other)
