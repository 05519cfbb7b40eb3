"""Whole classes by plain search [34], [35]."""

from math import factorial

from millbrook.counts import class_width
from millbrook.errors import InvalidHouse, InvalidRow, TooMany, UnlikeStones
from millbrook.firsts import first_of_class
from millbrook.houses import House
from millbrook.plain import count_walks, farthest, plain_class, plain_distance
from millbrook.seals import comes
from millbrook.sorts import grade_of
from tests import search
from tests.support import TOP, MillTest, shuffled

HOUSES = House.every()
SHORT = ((), (7,), (7, 3), (3, 7))
SIX = ((1, 2, 3, 4, 5, 6), (6, 5, 4, 3, 2, 1), (4, 2, 6, 1, 5, 3))


class Classes(MillTest):

    def test_every_house(self):
        for house in HOUSES:
            for n in range(6):
                for rows in search.classes(n, house.number):
                    for row in rows[::1 if n < 5 else 29]:
                        self.check_kinds(plain_class(list(row), house), rows)

    def test_six_stones(self):
        for house in HOUSES[::2]:
            for row in SIX[::2]:
                found = plain_class(row, house)
                self.check_kinds(found, sorted(search.distances(row, house.number)))
                self.assertEqual(class_width(row, house), len(found))
                self.assertEqual(first_of_class(row, house), found[0])

    def test_other_stones(self):
        weights = (-TOP, -8, 0, TOP)
        for house in HOUSES[::4]:
            for rows in search.classes(4, house.number):
                found = [tuple(weights[stone - 1] for stone in row) for row in rows]
                self.check_kinds(plain_class(found[-1], house), found)

    def test_rows_of_few_stones(self):
        for house in HOUSES:
            for row in SHORT:
                self.check_kinds(plain_class(list(row), house), [row])
                self.check_kinds(plain_distance(list(row), row, house), 0)
                self.check_kinds(count_walks(list(row), row, house), 1)
                self.check_kinds(farthest(list(row), house), (0, [row]))
            self.assertIsNone(plain_distance((3, 7), (7, 3), house))
            self.check_kinds(count_walks((3, 7), (7, 3), house), 0)

    def test_a_returned_class_belongs_to_the_caller(self):
        rows = plain_class((1, 2, 3), House("l-h"))
        rows.clear()
        self.assertEqual(len(plain_class((1, 2, 3), House("l-h"))), 3)


class Walks(MillTest):

    def test_every_house_on_small_rows(self):
        for house in HOUSES:
            for n in range(5):
                for at, first in enumerate(search.rows(n)):
                    away, counts = search.distances(first, house.number), search.walk_counts(first, house.number)
                    for second in search.rows(n)[at % 3::1 if n < 4 else 3]:
                        self.check_kinds(plain_distance(first, list(second), house), away.get(second))
                        self.check_kinds(count_walks(list(first), second, house), counts.get(second, 0))

    def test_rows_of_five_and_six_stones(self):
        for house in HOUSES:
            for first, second in (((1, 2, 3, 4, 5), (5, 4, 3, 2, 1)), ((3, 1, 2, 5, 4), (3, 5, 1, 4, 2)),
                                  ((2, 1, 5, 3, 4), (5, 2, 4, 1, 3))):
                self.check_walks(first, second, house)
        for house in HOUSES[::5]:
            self.check_walks(SIX[2], (6, 4, 2, 1, 5, 3), house)

    def check_walks(self, first, second, house):
        """Distance and number of shortest walks against the search."""
        self.check_kinds(plain_distance(first, second, house), search.distances(first, house.number).get(second))
        self.check_kinds(count_walks(first, second, house), search.walk_counts(first, house.number).get(second, 0))

    def test_farthest(self):
        for house in HOUSES:
            for n in range(6):
                for row in search.rows(n)[::1 if n < 5 else 23]:
                    away = search.distances(row, house.number)
                    most = max(away.values())
                    rows = sorted(other for other in away if away[other] == most)
                    self.check_kinds(farthest(list(row), house), (most, rows))

    def test_farthest_of_six_stones(self):
        self.check_kinds(farthest((1, 2, 3, 4, 5, 6), House("lbh-lbh")), (15, [(6, 5, 4, 3, 2, 1)]))
        self.check_kinds(farthest((1, 2, 3), House("l-h")), (1, [(1, 3, 2), (2, 1, 3)]))
        self.check_kinds(farthest((6, 5, 4, 3, 2, 1), House("l-h")), (0, [(6, 5, 4, 3, 2, 1)]))

    def test_the_number_of_shortest_walks_does_not_depend_on_the_house(self):
        found = {}
        for house in HOUSES:
            if grade_of(house) == "every":
                for first in search.rows(4)[::2]:
                    for second in search.rows(4)[::3]:
                        if comes(first, second, house):
                            found.setdefault((first, second), []).append(count_walks(first, second, house))
        for counts in found.values():
            self.assertEqual(len(set(counts)), 1)
        self.assertGreater(max(len(counts) for counts in found.values()), 20)

    def test_many_walks(self):
        house = House("lbh-lbh")
        # The number of ways to turn five stones around, by the hook lengths of a staircase.
        self.check_kinds(count_walks((1, 2, 3, 4, 5), (5, 4, 3, 2, 1), house), factorial(10) // (3**3 * 5**2 * 7))
        self.check_kinds(count_walks((1, 2, 3, 4, 5, 6), (6, 5, 4, 3, 2, 1), house),
                         factorial(15) // (3**4 * 5**3 * 7**2 * 9))


class Limits(MillTest):

    def test_seven_stones(self):
        for stones in range(7, 41):
            for row in (list(range(stones)), shuffled(range(stones), 1)):
                error = TooMany(6, stones)
                self.check_error(error, plain_class, row, House("l-"))
                self.check_error(error, plain_class, row, None)
                self.check_error(error, farthest, row, House("l-"))
                self.check_error(error, farthest, row, None)
                for function in (plain_distance, count_walks):
                    self.check_error(error, function, row, row, House("l-"))
                    self.check_error(error, function, row, None, None)
                    self.check_error(error, function, (1, 2), row, None)
                    self.check_error(InvalidRow(None), function, None, row, None)

    def test_the_order_of_the_errors(self):
        for function in (plain_distance, count_walks):
            self.check_error(InvalidHouse(None), function, (1, 2), (1, 3), None)
            self.check_error(UnlikeStones([1, 2], (1, 3)), function, [1, 2], (1, 3), House("l-"))
            self.check_error(UnlikeStones((), (1,)), function, (), (1,), House("l-"))
        for function in (plain_class, farthest):
            for row in (list(range(41)), tuple(range(41))):
                self.check_error(InvalidRow(row), function, row, House("l-"))
