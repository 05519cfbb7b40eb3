"""Houses: the kinds of third stones that help [6]."""

from millbrook.errors import InvalidHouse
from millbrook.values import check_number

_MOST_HOUSES = 63
# The letters of one side of a dash, and the sum of 1, 2, 4 for l, b, h.
_SIDES = {"": 0, "l": 1, "b": 2, "lb": 3, "h": 4, "lh": 5, "bh": 6, "lbh": 7}
_FLIPPED_SIDES = ("", "h", "b", "bh", "l", "lh", "lb", "lbh")


def text_of_number(number):
    """The text of the house with this number; the text of number 0 is a dash alone."""
    sides = list(_SIDES)
    return sides[number % 8] + "-" + sides[number // 8]


def number_of_text(text):
    """The number of the house with this text, or 0 if the value is not the text of a house."""
    if not isinstance(text, str):
        return 0
    before, dash, behind = text.partition("-")
    if dash == "" or before not in _SIDES or behind not in _SIDES:
        return 0
    # The operators of House run this, so no method is called that has the name of an attribute, as index has.
    return _SIDES[before] + 8 * _SIDES[behind]


def check_house(house):
    """Raises InvalidHouse unless this is a house."""
    if not isinstance(house, House):
        raise InvalidHouse(house)


class House:
    """A house of rules, given by its text, for example l-h."""

    KINDS = ("l-", "b-", "h-", "-l", "-b", "-h")

    def __init__(self, text):
        number = number_of_text(text)
        if number == 0:
            raise InvalidHouse(text)
        self.text = text
        self.number = number

    @classmethod
    def by_number(cls, number):
        """The house with this number, 1 to 63."""
        check_number(number, 1, _MOST_HOUSES)
        return cls(text_of_number(number))

    @staticmethod
    def every():
        """All houses in ascending order of their numbers."""
        return [House(text_of_number(number)) for number in range(1, _MOST_HOUSES + 1)]

    def named(self):
        """The kinds that the house names, in the order of the kinds."""
        return [kind for index, kind in enumerate(House.KINDS) if self.names_index(index)]

    def names_index(self, index):
        """Tells whether the house names the kind with this index in the order of the kinds."""
        return self.number >> index & 1 == 1

    def mirrored(self):
        """The house with the kinds before and behind exchanged."""
        return House(text_of_number(self.number // 8 + 8 * (self.number % 8)))

    def flipped(self):
        """The house with l and h exchanged on each side."""
        return House(_FLIPPED_SIDES[self.number % 8] + "-" + _FLIPPED_SIDES[self.number // 8])

    def is_finer(self, other):
        """Tells whether each kind of this house is a kind of the other one."""
        check_house(other)
        return self.number | other.number == other.number

    def __contains__(self, kind):
        return isinstance(kind, str) and kind in self.named()

    def __len__(self):
        return len(self.named())

    def __eq__(self, other):
        return isinstance(other, House) and self.number == other.number

    def __str__(self):
        return str(self.text)

    def __repr__(self):
        return f"House({self.text!r})"

    def __or__(self, other):
        check_house(other)
        return House(text_of_number(self.number | other.number))

    def __and__(self, other):
        check_house(other)
        return House(text_of_number(self.number & other.number))
