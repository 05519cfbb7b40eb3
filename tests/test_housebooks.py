"""The books of houses, and the least want that parts two rows [42]."""

from itertools import permutations

from millbrook.books import Book
from millbrook.changes import free_places
from millbrook.errors import InvalidHouse, InvalidNumber, InvalidRow, NoBook, TooMany, UnlikeStones
from millbrook.housebooks import house_book, least_want
from millbrook.houses import House
from tests import ruling, support
from tests.support import TOP, MillTest, shuffled

HOUSES = House.every()
BOOKS = [house for house in HOUSES if house.text in ruling.HOUSES_OF_BOOKS]
OTHERS = [house for house in HOUSES if house.text not in ruling.HOUSES_OF_BOOKS]
WANTS = (0, 1, 2, 100)


class Listed(MillTest):

    def test_which_houses_are_books(self):
        self.assertEqual((len(BOOKS), len(OTHERS)), (15, 48))
        for house in OTHERS:
            for stones in ((), (1,), [2, 1], (1, 2, 3), tuple(range(10))):
                for want in WANTS:
                    self.check_error(NoBook(house), house_book, house, stones, want=want)
                self.check_error(NoBook(house), least_want, house, stones, stones)

    def check_book(self, house, stones, want):
        """The sayings, the bans and the relation are those of the list."""
        book = house_book(house, stones, want=want)
        told = ruling.of_house(house.text, stones, want)
        self.assertIsInstance(book, Book)
        self.check_kinds([book.stones, book.sayings(), book.bans()],
                         [tuple(sorted(stones)), told["sayings"], told["bans"]])
        stronger = set(told["told"])
        pairs = [saying[:2] for saying in told["sayings"]]
        for one in pairs:
            for other in pairs:
                self.assertIs(book.is_stronger(one, other), (one, other) in stronger)

    def test_the_list(self):
        for house in BOOKS:
            for count in range(8):
                for want in WANTS:
                    self.check_book(house, tuple(range(1, count + 1)), want)
            for count in (8, 9, 10):
                self.check_book(house, shuffled(range(count), 7 if count < 10 else 3), 2)
            self.check_book(house, [TOP, -TOP, 5, 0], 100)

    def test_the_relation_of_the_list_extends_along_its_chains(self):
        for text in ruling.HOUSES_OF_SAYINGS:
            told = ruling.of_house(text, tuple(range(6)))
            self.assertEqual(ruling.stronger_pairs(told), set(told["told"]))

    def test_some_books(self):
        book = house_book(House("l-h"), (3, 1, 2))
        self.check_kinds(book.sayings(), [(1, 2, 1), (1, 3, 1), (2, 3, 1)])
        self.check_kinds(book.bans(), [])
        self.check_kinds(house_book(House("h-"), (3, 1, 2), want=5).sayings(), [(2, 1, 5), (3, 1, 5), (3, 2, 5)])
        for text, bans in (("l-l", [(1, 2), (1, 3), (1, 4)]), ("h-h", [(1, 4), (2, 4), (3, 4)]),
                           ("b-b", [(1, 2), (2, 3), (3, 4)]), ("lb-lb", [(1, 2)]), ("bh-bh", [(3, 4)]),
                           ("lh-lh", [(1, 4)]), ("lbh-lbh", [])):
            self.check_kinds(house_book(House(text), [4, 2, 3, 1]).bans(), bans)
            self.check_kinds(house_book(House(text), [2, 1]).bans(), [(1, 2)])
            self.check_kinds(house_book(House(text), [1]).bans(), [])
            self.check_kinds(house_book(House(text), []).sayings(), [])

    def test_the_want_is_one_if_none_is_given(self):
        for house in BOOKS:
            self.assertEqual(house_book(house, (1, 2, 3)).sayings(), house_book(house, (1, 2, 3), want=1).sayings())

    def test_each_book_is_a_new_one(self):
        book = house_book(House("l-l"), (1, 2, 3))
        book.ban(2, 3)
        self.assertEqual(house_book(House("l-l"), (1, 2, 3)).bans(), [(1, 2), (1, 3)])

    def test_errors(self):
        house, other = House("l-h"), House("lb-h")
        for bad in support.not_houses():
            self.check_error(InvalidHouse(bad), house_book, bad, None, want=None)
            self.check_error(InvalidHouse(bad), least_want, bad, None, None)
        for count in range(11, 41):
            self.check_error(TooMany(10, count), house_book, other, list(range(count)), want=None)
            self.check_error(TooMany(10, count), least_want, other, list(range(count)), None)
            self.check_error(TooMany(10, count), least_want, other, (), list(range(count)))
        for want in support.NOT_INTEGERS + (-1, 101):
            self.check_error(InvalidNumber(want), house_book, other, (1, 2), want=want)
        self.check_error(InvalidRow([1, 1]), house_book, house, [1, 1], want=-1)
        self.check_error(UnlikeStones((1, 2), [1, 3]), least_want, other, (1, 2), [1, 3])
        self.check_error(InvalidRow(None), least_want, other, (1, 2), None)


class Allowed(MillTest):

    def test_with_the_want_one_the_allowed_places_are_the_free_ones(self):
        for house in BOOKS:
            for count in range(6):
                book = house_book(house, tuple(range(count)))
                for row in permutations(range(count)):
                    self.assertEqual(book.allowed(row), free_places(row, house))

    def test_longer_rows(self):
        for house in BOOKS:
            for step in (1, 3, 7, 9):
                row = shuffled([5 * weight - 20 for weight in range(10)], step)
                self.assertEqual(house_book(house, row).allowed(row), free_places(row, house))

    def test_with_other_wants(self):
        for house in BOOKS:
            for want in (0, 2, 3):
                book = house_book(house, (1, 2, 3, 4), want=want)
                steps = ruling.steps_of_book((1, 2, 3, 4), ruling.of_house(house.text, (1, 2, 3, 4), want))
                for row in steps:
                    self.assertEqual(book.allowed(row), [place for place, _ in steps[row]])

    def test_with_the_want_zero_only_bans_count(self):
        for text in ruling.HOUSES_OF_SAYINGS:
            book = house_book(House(text), (1, 2, 3, 4), want=0)
            for row in permutations((1, 2, 3, 4)):
                self.assertEqual(book.allowed(row), [0, 1, 2])

    def test_numbers_of_classes_with_the_want_two(self):
        for count, many in ((3, 6), (4, 18), (5, 56)):
            stones = tuple(range(1, count + 1))
            book = house_book(House("l-h"), stones, want=2)
            rows = list(permutations(stones))
            self.assertEqual(len(ruling.grouped(rows, book.book_seal)), many)
            steps = ruling.steps_under(stones, lambda row, place: place in book.allowed(row))
            self.assertEqual(len(ruling.classes(steps)), many)


class Searched(ruling.BookTest):
    """The books of houses against a plain search by allowed changes."""

    def check_house(self, house, stones, want, goals):
        """The book of the house with the want for these stones."""
        told = ruling.of_house(house.text, stones, want)
        self.check_book(house_book(house, stones, want=want), told, goals)

    def test_few_stones(self):
        for house in BOOKS:
            for count in range(5):
                for want in (0, 1, 2, 3, 100):
                    self.check_house(house, tuple(range(1, count + 1)), want, 1 if count < 4 else 5)

    def test_five_stones(self):
        for house in BOOKS:
            for want in (1, 2, 4):
                self.check_house(house, (TOP, -3, 0, 8, 5), want, 29)


class LeastWant(MillTest):

    def numbers_of_classes(self, house, stones, want):
        """For each row the number of its class under the book of the house with this want."""
        steps = ruling.steps_of_book(stones, ruling.of_house(house.text, stones, want))
        return {row: at for at, rows in enumerate(ruling.classes(steps)) for row in rows}

    def check_house(self, house, count):
        """All pairs of rows of so many stones, against a search over the wants."""
        stones = tuple(range(1, count + 1))
        searched = [self.numbers_of_classes(house, stones, want) for want in range(count * count + 2)]
        rows = list(searched[0])
        for at, first in enumerate(rows):
            for second in rows[at:]:
                joined = [found[first] == found[second] for found in searched]
                least = joined.index(False) if False in joined else None
                self.assertEqual(least_want(house, first, second), least)
                self.assertEqual(joined, sorted(joined, reverse=True))

    def test_against_a_search_over_the_wants(self):
        for house in BOOKS:
            for count in range(5):
                self.check_house(house, count)

    def test_five_stones(self):
        for house in BOOKS:
            stones = (1, 2, 3, 4, 5)
            searched = [self.numbers_of_classes(house, stones, want) for want in range(9)]
            rows = list(searched[0])
            for at, first in enumerate(rows):
                for second in rows[:at]:
                    joined = [found[first] == found[second] for found in searched] + [False]
                    least = joined.index(False)
                    if house.text in ruling.HOUSES_OF_SAYINGS:
                        self.assertLess(least, 9)
                    self.assertEqual(least_want(house, first, second), least if least < 9 else None)

    def test_both_orders_and_lists(self):
        for house in BOOKS:
            for first in permutations((1, 2, 3, 4)):
                for second in list(permutations((1, 2, 3, 4)))[::5]:
                    found = least_want(house, list(first), second)
                    self.assertEqual(found, least_want(house, second, first))

    def test_rows_of_ten_stones(self):
        first, second = tuple(range(10)), tuple(range(10))[::-1]
        for text in ruling.HOUSES_OF_SAYINGS:
            house = House(text)
            self.assertIs(least_want(house, first, first), None)
            for row in (second, shuffled(first, 3), (1, 0, *range(2, 10)), (*range(8), 9, 8)):
                want = least_want(house, first, row)
                self.assertIs(house_book(house, first, want=want).joins(first, row), False)
                self.assertIs(house_book(house, first, want=want - 1).joins(first, row), True)
        self.assertEqual(least_want(House("l-h"), (4, 5) + tuple(range(4)) + tuple(range(6, 10)),
                                    (5, 4) + tuple(range(4)) + tuple(range(6, 10))), 21)
        self.check_kinds([least_want(House("b-b"), first, second), least_want(House("lbh-lbh"), first, second)], [0, None])
