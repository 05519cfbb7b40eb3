"""Locks: several houses and books at once [47]."""

import random
from itertools import permutations

from millbrook.books import Book
from millbrook.changes import is_free
from millbrook.errors import Barred, InvalidKeeper, InvalidPlace, InvalidRow, NoExactDistance, UnlikeStones
from millbrook.housebooks import house_book
from millbrook.houses import House
from millbrook.locks import Lock
from millbrook.seals import seal
from millbrook.sorts import grade_of
from tests import plain, ruling, support
from tests.support import LONG_ROWS, MillTest
from tests.wrong import A_KEEPER

HOUSES = House.every()
EXACT = [house for house in HOUSES if grade_of(house) == "every"]
INEXACT = [house for house in HOUSES if grade_of(house) != "every"]


def book_of(stones, *sayings):
    """A book with these sayings."""
    book = Book(stones)
    for saying in sayings:
        book.say(*saying)
    return book


class Keepers(MillTest):

    def test_no_keepers(self):
        lock = Lock()
        self.assertEqual(len(lock), 0)
        for row in ((), (5,), (2, 1), tuple(range(9)), *LONG_ROWS):
            self.check_kinds(lock.allowed(row), list(range(len(row) - 1)))
            self.assertIs(lock.joins(row, row[::-1]), True)
            self.assertIs(lock.parting(row, row[::-1]), None)
            self.assertEqual(len(lock.road(row, row[::-1])), len(row) * (len(row) - 1) // 2)
        self.check_kinds(lock.changed([3, 1, 2], 1), (3, 2, 1))

    def test_houses_of_each_grade(self):
        self.assertEqual({grade_of(house) for house in INEXACT}, {"none", "some"})
        for house in EXACT:
            self.assertEqual(len(Lock(house, house)), 2)
        for house in INEXACT:
            self.check_error(NoExactDistance(house), Lock, house)
            self.check_error(NoExactDistance(house), Lock, EXACT[0], house, None)
            with self.assertRaises(NoExactDistance):
                Lock() + house

    def test_what_is_no_keeper(self):
        for bad in A_KEEPER[1]:
            self.check_error(InvalidKeeper(bad), Lock, bad)
            self.check_error(InvalidKeeper(bad), Lock, EXACT[0], bad, INEXACT[0])
            self.check_error(InvalidKeeper(bad), lambda keeper: Lock(EXACT[0]) + keeper, bad)
        self.check_error(NoExactDistance(INEXACT[0]), Lock, INEXACT[0], None)

    def test_the_same_keeper_twice(self):
        house, book = House("l-h"), book_of((1, 2, 3), (1, 2))
        lock = Lock(house, house, book, book)
        self.assertEqual(len(lock), 4)
        self.assertEqual(lock.parting((1, 2, 3), (3, 2, 1)), 0)
        self.assertEqual(Lock(book, house, book).parting((1, 2, 3), (2, 1, 3)), 0)

    def test_one_more_keeper(self):
        house, book = House("l-"), book_of((1, 2, 3), (3, 2))
        lock = Lock(house)
        more = lock + book
        most = more + house
        self.assertIsInstance(more, Lock)
        self.assertEqual([len(lock), len(more), len(most)], [1, 2, 3])
        self.assertEqual(lock.allowed((1, 3, 2)), [1])
        self.assertEqual(more.allowed((1, 3, 2)), [])
        self.assertEqual(more.parting((1, 3, 2), (1, 2, 3)), 1)
        self.assertIs(lock.parting((1, 3, 2), (1, 2, 3)), None)

    def test_books_are_copied(self):
        book = book_of((1, 2, 3), (1, 2))
        lock = Lock(book)
        more = lock + book
        book.ban(2, 3)
        book.say(1, 3)
        for made in (lock, more):
            self.assertEqual(made.allowed((1, 2, 3)), [1])
            self.assertIs(made.joins((1, 2, 3), (1, 3, 2)), True)
        self.assertEqual((lock + book).allowed((1, 2, 3)), [])
        self.assertEqual(Lock(book).allowed((1, 2, 3)), [])

    def test_a_list_of_keepers_is_none(self):
        keepers = [House("l-")]
        self.check_error(InvalidKeeper(keepers), Lock, keepers)


class Rows(MillTest):

    def calls(self, lock, row):
        """All methods that take a row, with this row."""
        return ((lock.allowed, row), (lock.allows, row, 0), (lock.changed, row, 0), (lock.joins, row, row),
                (lock.road, row, row), (lock.parting, row, row))

    def test_the_first_book_that_does_not_fit(self):
        one, other = book_of((1, 2, 3), (1, 2)), book_of((1, 2, 4), (1, 2))
        lock = Lock(House("l-h"), one, other)
        for row in ([1, 2, 4], (3, 4), tuple(range(40))):
            for function, *told in self.calls(lock, row):
                self.check_error(UnlikeStones((1, 2, 3), row), function, *told)
        for function, *told in self.calls(lock, [3, 2, 1]):
            self.check_error(UnlikeStones((1, 2, 4), [3, 2, 1]), function, *told)
        for function, *told in self.calls(Lock(other, one), [3, 2, 1]):
            self.check_error(UnlikeStones((1, 2, 4), [3, 2, 1]), function, *told)

    def test_two_rows_come_before_the_books(self):
        lock = Lock(book_of((1, 2, 3), (1, 2)))
        for function in (lock.joins, lock.road, lock.parting):
            self.check_error(UnlikeStones((1, 2), [1, 3]), function, (1, 2), [1, 3])
            self.check_error(UnlikeStones((1, 2, 3), [1, 2]), function, [1, 2], (2, 1))
            self.check_error(InvalidRow(None), function, (1, 2), None)

    def test_places_come_before_the_books(self):
        lock = Lock(book_of((1, 2, 3), (1, 2)))
        for function in (lock.allows, lock.changed):
            self.check_error(InvalidPlace(1), function, (1, 2), 1)
            self.check_error(InvalidRow([True]), function, [True], 0)

    def test_barred(self):
        lock = Lock(House("l-"), House("-h"))
        self.check_error(Barred(1, 0), lock.changed, [1, 2, 3], 1)
        self.check_error(Barred(0, 0), lock.changed, (1, 2, 3), 0)
        self.check_kinds(lock.changed([1, 2, 3, 4], 1), (1, 3, 2, 4))

    def test_rows_of_forty_stones(self):
        lock = Lock(*EXACT[:20:3])
        for row in LONG_ROWS:
            places = [place for place in range(39) if all(is_free(row, place, house) for house in EXACT[:20:3])]
            self.assertEqual(lock.allowed(row), places)
            for place in places[:3]:
                after = lock.changed(list(row), place)
                self.assertEqual(lock.road(row, after), [place])
                self.assertIs(lock.joins(after, row), True)
            self.assertIs(lock.road(row, row[::-1]), None)
            self.assertIs(lock.parting(list(row), row), None)


class Searched(MillTest):

    def check_lock(self, lock, seals, steps, every):
        """The lock against the changes that are allowed and the seals under its keepers."""
        for row in steps:
            self.assertEqual(lock.allowed(row), [place for place, _ in steps[row]])
        self.assertEqual(ruling.classes(steps),
                         ruling.grouped(list(steps), lambda row: repr([told(row) for told in seals])))
        for goal in list(steps)[::every]:
            walks = ruling.least_walks(goal, steps)
            for row in steps:
                differ = [index for index, told in enumerate(seals) if told(row) != told(goal)]
                self.assertEqual(lock.parting(row, goal), differ[0] if differ else None)
                self.assertIs(lock.joins(row, goal), row in walks)
                self.assertEqual(lock.road(row, goal), walks.get(row))
                if row in walks:
                    self.assertEqual(len(walks[row]), len(plain.named_turned(row, goal)))

    def drawn(self, stones, source):
        """A drawn lock with the seals under its keepers and the changes that it allows."""
        keepers, seals, free = [], [], []
        for _ in range(source.randint(1, 3)):
            if source.random() < 0.6:
                house = source.choice(EXACT)
                keepers.append(house)
                seals.append(lambda row, house=house: seal(row, house))
                free.append(lambda row, place, house=house: plain.is_free(row, place, house.text))
            else:
                book, told = ruling.drawn(stones, source)
                stronger = ruling.stronger_pairs(told)
                keepers.append(book)
                seals.append(lambda row, told=told, stronger=stronger: ruling.book_seal(told, stronger, row))
                free.append(lambda row, place, told=told, stronger=stronger: ruling.allows(told, stronger, row, place))
        steps = ruling.steps_under(stones, lambda row, place: all(lets(row, place) for lets in free))
        return Lock(*keepers), seals, steps

    def test_drawn_locks(self):
        source = random.Random(47)
        for count, many in ((0, 2), (1, 2), (2, 10), (3, 50), (4, 30)):
            for _ in range(many):
                self.check_lock(*self.drawn(tuple(range(1, count + 1)), source), 1 if count < 4 else 5)

    def test_drawn_locks_of_five_stones(self):
        source = random.Random(74)
        for _ in range(8):
            self.check_lock(*self.drawn((4, 9, -1, 0, 7), source), 41)

    def test_numbers_of_classes(self):
        for one, other, many in (("l-", "-h", (6, 23, 105)), ("lh-", "-b", (6, 22, 90)), ("lh-", "b-", (6, 20, 70)),
                                 ("l-h", "lh-", (5, 13, 35)), ("l-h", "h-l", (6, 16, 40))):
            lock = Lock(House(one), House(other))
            found = []
            for count in (3, 4, 5):
                steps = {row: [(place, lock.changed(row, place)) for place in lock.allowed(row)]
                         for row in permutations(range(1, count + 1))}
                parts = ruling.classes(steps)
                self.assertTrue(all(lock.joins(rows[0], row) for rows in parts for row in rows))
                self.assertFalse(any(lock.joins(rows[0], others[0]) for rows in parts for others in parts
                                     if rows != others))
                found.append(len(parts))
            self.assertEqual(tuple(found), many)

    def test_a_house_and_its_book_keep_the_same(self):
        for text in ruling.HOUSES_OF_BOOKS:
            house = House(text)
            lock, book = Lock(house), Lock(house_book(house, (1, 2, 3, 4)))
            for row in permutations((1, 2, 3, 4)):
                self.assertEqual(lock.allowed(row), book.allowed(row))
                for goal in list(permutations((1, 2, 3, 4)))[::7]:
                    self.assertEqual(lock.road(row, goal), book.road(row, goal))

    def test_returned_lists(self):
        lock = Lock(House("l-h"))
        for function, *told in ((lock.allowed, (1, 2, 3)), (lock.road, (1, 3, 2), (2, 1, 3))):
            found = function(*told)
            before = list(found)
            found.append(9)
            self.assertEqual(function(*told), before)

    def test_odd_keepers_of_many_kinds(self):
        for bad in (support.Odd(), support.Anything(), (House("l-"),)):
            self.check_error(InvalidKeeper(bad), Lock, Book(()), bad)
