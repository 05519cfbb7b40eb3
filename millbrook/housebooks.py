"""The books of those houses that are books [42]."""

from itertools import combinations

from millbrook.books import MOST_BOOK_STONES, MOST_WANT, Book
from millbrook.errors import NoBook
from millbrook.houses import check_house
from millbrook.rows import check_alike, check_row, check_stones
from millbrook.values import check_number


def _lighter_instead(couple, other):
    """Tells whether the other couple has the same heavier stone and a lighter lighter one."""
    return other[1] == couple[1] and other[0] < couple[0]


def _between_instead_of_lighter(couple, other):
    """Tells whether the other couple has the same heavier stone and a heavier lighter one."""
    return other[1] == couple[1] and other[0] > couple[0]


def _heavier_instead(couple, other):
    """Tells whether the other couple has the same lighter stone and a heavier heavier one."""
    return other[0] == couple[0] and other[1] > couple[1]


def _between_instead_of_heavier(couple, other):
    """Tells whether the other couple has the same lighter stone and a lighter heavier one."""
    return other[0] == couple[0] and other[1] < couple[1]


def _around(couple, other):
    """Tells whether the other couple covers the couple and is not the same."""
    return other[0] <= couple[0] and other[1] >= couple[1] and other != couple


# For each house whose book has sayings, which couples have a stronger saying than a couple.
_STRONGER = {
    "l-": _lighter_instead,
    "-h": _heavier_instead,
    "l-h": _around,
    "b-": _between_instead_of_lighter,
    "-b": _between_instead_of_heavier,
    "h-": _heavier_instead,
    "-l": _lighter_instead,
    "h-l": _around,
}
# In the books of these houses the heavier stone of each couple is to stand first.
_HEAVIER_FIRST = ("h-", "-l", "h-l")


def _with_lightest(stones):
    """The couples of the lightest of the ascending stones."""
    return [(stones[0], stone) for stone in stones[1:]]


def _with_heaviest(stones):
    """The couples of the heaviest stone."""
    return [(stone, stones[-1]) for stone in stones[:-1]]


def _next_ones(stones):
    """The couples of stones whose ranks differ by one."""
    return list(zip(stones, stones[1:]))


def _two_lightest(stones):
    """The couple of the two lightest stones, if there are two."""
    return _next_ones(stones[:2])


def _two_heaviest(stones):
    """The couple of the two heaviest stones, if there are two."""
    return _next_ones(stones[-2:])


def _both_ends(stones):
    """The couple of the lightest and the heaviest stone, if they are two."""
    return _with_heaviest(stones)[:1]


def _only_couple(stones):
    """The couple of the two stones, if there are exactly two."""
    return _next_ones(stones) if len(stones) == 2 else []


# For each house whose book has bans, the couples that it bans.
_BANS = {
    "l-l": _with_lightest,
    "h-h": _with_heaviest,
    "b-b": _next_ones,
    "lb-lb": _two_lightest,
    "bh-bh": _two_heaviest,
    "lh-lh": _both_ends,
    "lbh-lbh": _only_couple,
}


def _check_book(house):
    """Raises NoBook unless the house is a book."""
    if house.text not in _STRONGER and house.text not in _BANS:
        raise NoBook(house)


def _saying_of(couple, house):
    """The saying about the couple in the book of the house."""
    return couple[::-1] if house.text in _HEAVIER_FIRST else couple


def _say_all(book, house, want):
    """Tells the book the sayings of the house and which of them are stronger."""
    couples = list(combinations(book.stones, 2))
    for couple in couples:
        first, second = _saying_of(couple, house)
        book.say(first, second, want)
    has_stronger = _STRONGER[house.text]
    for couple in couples:
        for other in couples:
            if has_stronger(couple, other):
                book.strengthen(_saying_of(other, house), _saying_of(couple, house))


def _book_of(house, stones, want):
    """The book of the house, without checking the arguments."""
    book = Book(stones)
    if house.text in _STRONGER:
        _say_all(book, house, want)
    else:
        banned = _BANS[house.text]
        for first, second in banned(book.stones):
            book.ban(first, second)
    return book


def house_book(house, stones, *, want=1):
    """The book of the house for these stones."""
    check_house(house)
    check_row(stones)
    check_stones(stones, MOST_BOOK_STONES)
    check_number(want, 0, MOST_WANT)
    _check_book(house)
    return _book_of(house, stones, want)


def least_want(house, first, second):
    """The least want with which neither row comes of the other under the book of the house, or None."""
    check_house(house)
    check_row(first)
    check_stones(first, MOST_BOOK_STONES)
    check_row(second)
    check_stones(second, MOST_BOOK_STONES)
    check_alike(first, second)
    _check_book(house)
    # A book has fewer sayings than the greatest want, so its seals have the whole counts.
    book = _book_of(house, first, MOST_WANT)
    counts, orders = book.seal_of_held(first)
    other_counts, other_orders = book.seal_of_held(second)
    if orders != other_orders:
        return 0
    # Two unlike counts are told apart by the first want that is greater than the lesser one.
    wants = [min(count, other) + 1 for count, other in zip(counts, other_counts) if count != other]
    return min(wants, default=None)
