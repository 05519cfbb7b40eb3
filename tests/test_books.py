"""Books: sayings, relations, wants and bans, changes under them, and book seals [38] to [41]."""

import random
from itertools import permutations

from millbrook.books import Book
from millbrook.errors import Barred, InvalidCouple, InvalidNumber, InvalidRow, NoSaying, NoStone, Ring, SayingThere
from millbrook.errors import TooMany, UnlikeStones, WantTooSmall
from tests import plain, ruling, support
from tests.support import TOP, MillTest

NOT_PAIRS = support.NOT_INTEGERS + (
    0, "31", "13", [1, 3], [3, 1], (1,), (1, 3, 1), ([1, 3],), ((1, 3),), {1: 3}, {1, 3}, (1, True), (True, 3),
    (1.0, 3), (1, 3.0), (None, None), ("1", "3"), ([1], [3]), (1, [3]), ({}, {}), (10**5000, 3),
    (support.Anything(), support.Anything()), (1, support.Anything()), b"13", range(1, 4, 2),
)


def book_of(stones, *sayings):
    """A book with these sayings, each with the want 1 unless it tells another one."""
    book = Book(stones)
    for saying in sayings:
        book.say(*saying)
    return book


def chain_of(*sayings):
    """A book of the stones 1 to 5 in which each of the sayings is stronger than the next one."""
    book = book_of((1, 2, 3, 4, 5), *sayings)
    for stronger, weaker in zip(sayings, sayings[1:]):
        book.strengthen(stronger[:2], weaker[:2])
    return book


def state(book):
    """All that a book can tell of itself."""
    pairs = [saying[:2] for saying in book.sayings()]
    relation = [(one, other) for one in pairs for other in pairs if book.is_stronger(one, other)]
    return book.stones, book.sayings(), book.bans(), relation


class Making(MillTest):

    def test_stones(self):
        for stones in ((), [], (5,), [2, 1], (3, 1, 2), tuple(range(10)), list(range(9, -1, -1)), [TOP, -TOP, 0]):
            book = Book(stones)
            self.check_kinds(book.stones, tuple(sorted(stones)))
            self.check_kinds([len(book), book.sayings(), book.bans()], [0, [], []])

    def test_too_many_stones(self):
        for count in range(11, 41):
            self.check_error(TooMany(10, count), Book, list(range(count)))
        self.check_error(InvalidRow([1] * 11), Book, [1] * 11)

    def test_a_list_that_the_caller_changes(self):
        stones = [3, 1, 2]
        book = Book(stones)
        stones.append(4)
        self.assertEqual(book.stones, (1, 2, 3))
        self.check_error(NoStone(4), book.say, 4, 1)

    def test_an_empty_book_allows_everything(self):
        for count in range(11):
            row = tuple(range(count))
            book = Book(row)
            self.check_kinds(book.allowed(row[::-1]), list(range(count - 1)))
            self.check_kinds([book.book_seal(row), book.true_sayings(row), book.strongest(row)], [((), ()), [], []])
            self.assertIs(book.joins(row, row[::-1]), True)
            self.assertIs(book.parting(row, row[::-1]), None)
            self.assertEqual(len(book.road(row, row[::-1])), count * (count - 1) // 2)


class Sayings(MillTest):

    def test_sayings_in_the_order_told(self):
        book = book_of((1, 2, 3), (3, 1), (1, 2, 0), (2, 3, 100))
        self.check_kinds(book.sayings(), [(3, 1, 1), (1, 2, 0), (2, 3, 100)])
        self.assertEqual(len(book), 3)

    def test_want(self):
        for want in (0, 1, 2, 100):
            book = Book((1, 2))
            book.say(1, 2, want=want)
            self.check_kinds(book.sayings(), [(1, 2, want)])
        book = Book((1, 2))
        for want in support.NOT_INTEGERS + (-1, 101, 10**5000):
            self.check_error(InvalidNumber(want), book.say, 1, 2, want)
            self.check_error(InvalidNumber(want), book.say, 1, 1, want=want)
        self.assertEqual(len(book), 0)

    def test_one_stone_twice(self):
        book = book_of((1, 2), (1, 2))
        self.check_error(InvalidCouple(1, 1), book.say, 1, 1)
        self.check_error(InvalidCouple(2, 2), book.say, 2, 2, 100)
        self.check_error(InvalidCouple(2, 2), book.ban, 2, 2)

    def test_told_again(self):
        book = book_of((1, 2, 3), (2, 1))
        for first, second in ((2, 1), (1, 2)):
            for want in (0, 1, 100):
                self.check_error(SayingThere(first, second), book.say, first, second, want)
        book.ban(3, 1)
        book.say(3, 1)
        self.assertEqual(book.sayings(), [(2, 1, 1), (3, 1, 1)])

    def test_order_of_the_checks(self):
        book = book_of((1, 2, 3), (1, 2))
        self.check_error(NoStone(4), book.say, 4, 4, None)
        self.check_error(NoStone(True), book.say, 1, True, None)
        self.check_error(InvalidNumber(None), book.say, 1, 1, None)
        self.check_error(InvalidNumber(101), book.say, 1, 2, 101)
        self.check_error(NoStone(0), book.ban, 0, None)
        self.check_error(NoStone(None), book.ban, 1, None)

    def test_stones_that_the_book_does_not_have(self):
        book = book_of((0, 1, 7), (0, 1))
        for bad in support.NOT_INTEGERS + (2, -1, 8, TOP, TOP + 1, 10**5000):
            for told in ((bad, 1), (1, bad), (bad, bad)):
                self.check_error(NoStone(bad), book.say, *told)
                self.check_error(NoStone(bad), book.ban, *told)
        self.assertEqual(state(book), ((0, 1, 7), [(0, 1, 1)], [], []))

    def test_in(self):
        book = book_of((1, 2, 3), (1, 3), (2, 1))
        for pair, held in (((1, 3), True), ((3, 1), False), ((2, 1), True), ((1, 2), False), ((2, 3), False),
                           ((1, 1), False), ((4, 5), False)):
            self.assertIs(pair in book, held)
        for value in NOT_PAIRS:
            self.assertIs(value in book, False)
        self.assertIs((True, 3) in book, False)
        self.assertIs((1, 3) in Book((1, 3)), False)

    def test_len(self):
        book = Book(tuple(range(10)))
        for count, (first, second) in enumerate(plain.rising(tuple(range(10))), 1):
            book.say(first, second)
            self.assertEqual(len(book), count)
        self.assertEqual(len(book), 45)


class Relations(MillTest):

    def test_chains(self):
        book = chain_of((1, 2), (3, 1), (2, 5), (5, 4))
        sayings = [saying[:2] for saying in book.sayings()]
        for at, one in enumerate(sayings):
            for other_at, other in enumerate(sayings):
                self.assertIs(book.is_stronger(one, other), at < other_at)

    def test_chains_that_are_joined_in_the_middle(self):
        book = book_of((1, 2, 3, 4, 5), (1, 2), (2, 3), (3, 4), (4, 5))
        book.strengthen((1, 2), (2, 3))
        book.strengthen((3, 4), (4, 5))
        self.assertIs(book.is_stronger((1, 2), (4, 5)), False)
        book.strengthen((2, 3), (3, 4))
        for at in range(1, 5):
            for other_at in range(1, 5):
                self.assertIs(book.is_stronger((at, at + 1), (other_at, other_at + 1)), at < other_at)

    def test_told_again(self):
        book = chain_of((1, 2), (3, 1), (2, 5))
        before = state(book)
        book.strengthen((1, 2), (3, 1))
        book.strengthen((1, 2), (2, 5))
        self.assertEqual(state(book), before)

    def test_rings(self):
        book = chain_of((1, 2, 0), (3, 1, 0), (2, 5, 0), (5, 4, 0))
        sayings = [saying[:2] for saying in book.sayings()]
        before = state(book)
        for at, stronger in enumerate(sayings):
            for weaker in sayings[:at + 1]:
                self.check_error(Ring(stronger, weaker), book.strengthen, stronger, weaker)
        self.assertEqual(state(book), before)

    def test_wants(self):
        book = book_of((1, 2, 3), (1, 2, 2), (1, 3, 1), (2, 3, 2))
        self.check_error(WantTooSmall((1, 3), (1, 2)), book.strengthen, (1, 3), (1, 2))
        book.strengthen((1, 2), (1, 3))
        book.strengthen((1, 2), (2, 3))
        self.check_error(Ring((1, 3), (1, 2)), book.strengthen, (1, 3), (1, 2))
        self.check_error(Ring((1, 3), (1, 3)), book.strengthen, (1, 3), (1, 3))
        self.check_error(WantTooSmall((1, 3), (2, 3)), book.strengthen, (1, 3), (2, 3))

    def test_what_is_no_saying(self):
        book = book_of((1, 2, 3), (1, 3), (2, 1))
        for bad in NOT_PAIRS + ((3, 1), (1, 2), (2, 3), (1, 3, 1), (1, 1), (4, 5)):
            for function in (book.strengthen, book.is_stronger):
                self.check_error(NoSaying(bad), function, bad, (1, 3))
                self.check_error(NoSaying(bad), function, (1, 3), bad)
                self.check_error(NoSaying(bad), function, bad, None)
        self.assertEqual(state(book)[3], [])

    def test_is_stronger_raises_no_other_error(self):
        book = book_of((1, 2, 3), (1, 2, 0), (1, 3, 5))
        for one in ((1, 2), (1, 3)):
            for other in ((1, 2), (1, 3)):
                self.assertIs(book.is_stronger(one, other), False)

    def test_drawn_relations(self):
        source = random.Random(5)
        for count in range(2, 8):
            for _ in range(10):
                book, told = ruling.drawn(tuple(range(count)), source, 2)
                stronger = ruling.stronger_pairs(told)
                pairs = [saying[:2] for saying in told["sayings"]]
                for one in pairs:
                    for other in pairs:
                        self.assertIs(book.is_stronger(one, other), (one, other) in stronger)


class Bans(MillTest):

    def test_ascending_and_told_again(self):
        book = Book((1, 2, 3, 4))
        for first, second in ((4, 3), (1, 2), (2, 1), (3, 4), (4, 1), (1, 4)):
            book.ban(first, second)
        self.check_kinds(book.bans(), [(1, 2), (1, 4), (3, 4)])

    def test_a_ban_counts_beside_a_saying(self):
        book = book_of((1, 2, 3), (1, 2, 0), (2, 3, 0))
        self.assertEqual(book.allowed((1, 2, 3)), [0, 1])
        book.ban(2, 1)
        self.assertEqual(book.allowed((1, 2, 3)), [1])
        self.assertEqual(book.allowed((2, 1, 3)), [1])
        self.check_kinds(book.book_seal((2, 1, 3)), ((0, 0), (2,)))


class Rows(MillTest):

    def calls(self, book, row):
        """All methods that take a row, with this row."""
        return ((book.true_sayings, row), (book.strongest, row), (book.allowed, row), (book.book_seal, row),
                (book.allows, row, 0), (book.changed, row, 0), (book.joins, row, row), (book.road, row, row),
                (book.parting, row, row))

    def test_rows_with_other_stones(self):
        book = book_of((1, 2, 3), (1, 2))
        for row in ((1, 2), [1, 2, 4], (1, 2, 3, 4), tuple(range(11)), list(range(40))):
            for function, *told in self.calls(book, row):
                self.check_error(UnlikeStones((1, 2, 3), row), function, *told)
        self.check_error(UnlikeStones((), (1, 2)), Book(()).allows, (1, 2), 0)
        self.check_error(UnlikeStones((1, 2, 3), ()), book.allowed, ())

    def test_two_rows_with_unlike_stones(self):
        book = book_of((1, 2, 3), (1, 2))
        for first, second in (((1, 2, 3), (1, 2)), ([1, 2], (1, 2, 3)), ((1, 2), [1, 3]), ((1, 2, 3), list(range(40)))):
            for function in (book.joins, book.road, book.parting):
                self.check_error(UnlikeStones(first, second), function, first, second)
        for function in (book.joins, book.road, book.parting):
            self.check_error(UnlikeStones((1, 2, 3), [5, 4]), function, [5, 4], (4, 5))
            self.check_error(InvalidRow([1, 1]), function, [5, 4], [1, 1])

    def test_stones_come_behind_the_checks_of_the_other_arguments(self):
        book = book_of((1, 2, 3), (1, 2))
        for place in (-1, 1, None):
            with self.assertRaises(Exception) as caught:
                book.allows((1, 2), place)
            self.assertEqual(type(caught.exception).__name__, "InvalidPlace")

    def test_lists_and_tuples_stay_as_they_were(self):
        book = chain_of((1, 2), (3, 1), (2, 5))
        row, goal = [5, 4, 3, 2, 1], [4, 5, 3, 2, 1]
        for function, *told in self.calls(book, row)[:4]:
            self.check_kinds(function(*told), function(tuple(row)))
        self.check_kinds(book.changed(row, 0), (4, 5, 3, 2, 1))
        self.check_kinds(book.road(row, goal), [0])
        self.assertEqual((row, goal), ([5, 4, 3, 2, 1], [4, 5, 3, 2, 1]))

    def test_true_and_strongest_sayings(self):
        book = chain_of((2, 1), (3, 1), (5, 4), (1, 4))
        book.say(4, 2)
        self.check_kinds(book.true_sayings((1, 2, 3, 4, 5)), [(1, 4)])
        self.check_kinds(book.strongest((1, 2, 3, 4, 5)), [(1, 4)])
        self.check_kinds(book.true_sayings((5, 4, 3, 2, 1)), [(2, 1), (3, 1), (5, 4), (4, 2)])
        self.check_kinds(book.strongest((5, 4, 3, 2, 1)), [(2, 1), (4, 2)])
        self.check_kinds(book.strongest((3, 1, 5, 4, 2)), [(3, 1), (4, 2)])

    def test_stronger_sayings_over_chains_help(self):
        book = chain_of((1, 2, 2), (3, 1, 2), (2, 5, 2))
        self.assertIs(book.allows((1, 4, 3, 2, 5), 3), False)
        self.assertIs(book.allows((3, 1, 4, 2, 5), 3), True)
        self.assertIs(book.allows((3, 1, 4, 5, 2), 3), True)
        self.assertIs(book.allows((3, 1, 4, 5, 2), 0), False)

    def test_changed(self):
        book = book_of((1, 2, 3), (1, 2), (1, 3))
        book.strengthen((1, 3), (1, 2))
        self.check_kinds(book.changed([1, 2, 3], 0), (2, 1, 3))
        self.check_error(Barred(0, 0), book.changed, (1, 3, 2), 0)
        self.check_error(Barred(1, 0), book.changed, (2, 3, 1), 1)

    def test_parting(self):
        book = book_of((1, 2, 3), (1, 2, 0), (3, 2, 1), (1, 3, 1))
        book.ban(1, 2)
        book.ban(2, 3)
        self.check_kinds(book.parting((1, 2, 3), (1, 3, 2)), ("saying", 1))
        self.check_kinds(book.parting((1, 3, 2), (3, 1, 2)), ("saying", 2))
        self.check_kinds(book.parting((1, 2, 3), (2, 1, 3)), ("ban", 0))
        self.check_kinds(Book((1, 2)).parting((1, 2), (2, 1)), None)
        bans = Book((1, 2, 3))
        bans.ban(1, 3)
        bans.ban(2, 3)
        self.check_kinds(bans.parting((1, 3, 2), (1, 2, 3)), ("ban", 1))
        self.check_kinds(bans.parting((1, 3, 2), (3, 1, 2)), ("ban", 0))

    def test_rows_of_ten_stones(self):
        stones = support.shuffled(range(-5, 5), 3)
        book = Book(stones)
        for first, second in plain.rising(tuple(sorted(stones))):
            book.say(first, second)
        self.check_kinds(book.book_seal(stones[::-1])[1], ())
        self.assertEqual(len(book.book_seal(stones)[0]), 45)
        self.assertEqual(book.road(stones, stones), [])
        self.assertIs(book.road(stones, stones[::-1]), None)
        self.assertEqual(book.allowed(stones), [])


class Copies(MillTest):

    def test_twins(self):
        book = chain_of((1, 2), (3, 1), (2, 5))
        book.ban(1, 4)
        twin, before = book.twin(), state(book)
        self.assertIsInstance(twin, Book)
        self.assertEqual(state(twin), before)
        twin.say(4, 5)
        twin.ban(2, 3)
        twin.strengthen((4, 5), (1, 2))
        self.assertEqual(state(book), before)
        self.assertIs(twin.is_stronger((4, 5), (2, 5)), True)
        changed = state(twin)
        book.say(3, 5)
        book.strengthen((2, 5), (3, 5))
        book.ban(3, 5)
        self.assertEqual(state(twin), changed)
        twin.strengthen((1, 2), (2, 5))
        self.assertEqual(state(twin), changed)

    def test_returned_lists(self):
        book = chain_of((1, 2), (3, 1), (2, 5))
        book.ban(1, 4)
        before, row = state(book), (5, 3, 1, 2, 4)
        lists = [book.sayings(), book.bans(), book.true_sayings(row), book.strongest(row), book.allowed(row),
                 book.road(row, row)]
        copies = [list(values) for values in lists]
        book.say(4, 5)
        book.ban(2, 5)
        self.assertEqual(lists, copies)
        for values in lists:
            values.append(None)
        self.assertEqual(book.sayings(), before[1] + [(4, 5, 1)])
        self.assertEqual(book.bans(), [(1, 4), (2, 5)])
        self.assertNotIn(None, book.true_sayings(row) + book.strongest(row) + book.allowed(row))

    def test_errors_change_nothing(self):
        book = chain_of((1, 2, 2), (3, 1), (2, 5))
        before = state(book)
        for function, *told in ((book.say, 4, 4), (book.say, 1, 2), (book.say, 2, 1, 0), (book.say, 4, 5, 101),
                                (book.strengthen, (2, 5), (1, 2)), (book.strengthen, (1, 2), [2, 5]),
                                (book.ban, 4, 4), (book.ban, 1, None), (book.changed, (1, 2), 0)):
            with self.assertRaises(ValueError):
                function(*told)
            self.assertEqual(state(book), before)


class Searched(ruling.BookTest):
    """Drawn books against a plain search by allowed changes."""

    def test_drawn_books(self):
        source = random.Random(38)
        for count, many in ((0, 1), (1, 1), (2, 8), (3, 60), (4, 40)):
            for _ in range(many):
                book, told = ruling.drawn(tuple(range(1, count + 1)), source)
                self.check_book(book, told, 1 if count < 4 else 5)

    def test_drawn_books_of_five_stones(self):
        source = random.Random(40)
        for most_want in (1, 2, 4):
            for _ in range(4):
                book, told = ruling.drawn((10, -3, TOP, 0, 7), source, most_want)
                self.check_book(book, told, 29)

    def test_each_turned_place_is_allowed_until_the_goal(self):
        source = random.Random(31)
        for _ in range(30):
            book, _ = ruling.drawn((1, 2, 3, 4), source)
            rows = list(permutations((1, 2, 3, 4)))
            for row in rows:
                for goal in rows[::5]:
                    if book.joins(row, goal):
                        turned = [place for place in range(3) if goal.index(row[place]) > goal.index(row[place + 1])]
                        self.assertLessEqual(set(turned), set(book.allowed(row)))

    def test_strongest_sayings_tell_the_classes_where_all_wants_are_one(self):
        source = random.Random(41)
        for count in (2, 3, 4, 5):
            for _ in range(8):
                book, told = ruling.drawn(tuple(range(count)), source)
                plain_book = Book(book.stones)
                for first, second, _ in told["sayings"]:
                    plain_book.say(first, second)
                for stronger, weaker in told["told"]:
                    plain_book.strengthen(stronger, weaker)
                rows = list(permutations(book.stones))
                self.assertEqual(ruling.grouped(rows, plain_book.book_seal),
                                 ruling.grouped(rows, lambda row: tuple(plain_book.strongest(row))))
