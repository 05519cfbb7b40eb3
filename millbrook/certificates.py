"""Certificates: statements about two rows under a house that can be checked [37]."""

from millbrook.changes import after
from millbrook.errors import Barred, InvalidWalk
from millbrook.houses import House
from millbrook.roads import road
from millbrook.rows import is_row
from millbrook.seals import entry_at, seal_of, seal_parting
from millbrook.values import is_integer


def _kept(value):
    """The value as a certificate keeps it: a list as a copy."""
    return list(value) if isinstance(value, list) else value


def _fits(certificate):
    """Tells whether the house and the rows of the certificate are such, and the rows hold the same stones."""
    first, second = certificate.first, certificate.second
    if not isinstance(certificate.house, House) or not is_row(first) or not is_row(second):
        return False
    return sorted(first) == sorted(second)


def _is_entry(value, entry):
    """Tells whether the value is this entry of a content; values of other kinds are not even compared."""
    if entry is None:
        return value is None
    if isinstance(entry, tuple):
        if not isinstance(value, tuple) or len(value) != len(entry):
            return False
        return all([_is_entry(part, item) for part, item in zip(value, entry)])
    if isinstance(entry, str):
        return isinstance(value, str) and value == entry
    return is_integer(value) and value == entry


def _told_stones(certificate):
    """The beginning of each summary."""
    return f"{certificate.house.text}: {len(certificate.first)} stones"


class Certificate:
    """States that two rows hold the same stones."""

    def __init__(self, house, first, second):
        self.house = _kept(house)
        self.first = _kept(first)
        self.second = _kept(second)

    def holds(self):
        """Tells whether the statement is true."""
        return _fits(self)

    def summary(self):
        """The house and the number of stones."""
        return _told_stones(self)


class Road(Certificate):
    """States that the places are a walk from the first row to the second one."""

    def __init__(self, house, first, second, places):
        Certificate.__init__(self, house, first, second)
        self.places = _kept(places)

    def holds(self):
        """Tells whether the statement is true."""
        if not _fits(self):
            return False
        try:
            return after(self.first, self.places, self.house) == tuple(self.second)
        except (InvalidWalk, Barred):
            return False

    def summary(self):
        """The house, the number of stones and the number of changes."""
        return f"{_told_stones(self)}, {len(self.places)} changes"


class Parting(Certificate):
    """States that the contents of the seals of the rows have two unlike entries at the index."""

    def __init__(self, house, first, second, index, left, right):
        Certificate.__init__(self, house, first, second)
        self.index = _kept(index)
        self.left = _kept(left)
        self.right = _kept(right)

    def holds(self):
        """Tells whether the statement is true."""
        if not _fits(self) or not is_integer(self.index) or self.index < 0:
            return False
        left = entry_at(seal_of(self.first, self.house)[1], self.index)
        right = entry_at(seal_of(self.second, self.house)[1], self.index)
        return left != right and _is_entry(self.left, left) and _is_entry(self.right, right)

    def summary(self):
        """The house, the number of stones and the index."""
        return f"{_told_stones(self)}, entry {self.index} differs"


def answer(first, second, house):
    """A certificate that one row comes of the other, or that neither does."""
    walk = road(first, second, house)
    if walk is not None:
        return Road(house, tuple(first), tuple(second), walk)
    index, left, right = seal_parting(first, second, house)
    return Parting(house, tuple(first), tuple(second), index, left, right)
