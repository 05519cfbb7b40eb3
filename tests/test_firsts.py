"""The first row of a class in dictionary order [30]."""

from millbrook.bound import first_tame
from millbrook.errors import InvalidRow
from millbrook.firsts import first_of_class
from millbrook.houses import House
from millbrook.seals import seal
from millbrook.sorts import sort_of
from tests import search
from tests.support import LONG_ROWS, TOP, MillTest, drawn_walk, shuffled

HOUSES = House.every()
MIDDLE_ROWS = (
    shuffled(range(12), 5), shuffled(range(13), 4), shuffled(range(14), 9), tuple(range(11)), tuple(range(11))[::-1],
    (5, 6, 7, 8, 9, 0, 1, 2, 3, 4), (9, 0, 8, 1, 7, 2, 6, 3, 5, 4), (0, 1, 2, 3, 9, 8, 7, 6, 5, 4),
    (4, 3, 2, 1, 0, 5, 6, 7, 8, 9),
)


def moved(row, index, goal):
    """The row with the stone at the index moved forward to the goal."""
    return (*row[:goal], row[index], *row[goal:index], *row[index + 1:])


class Firsts(MillTest):

    def test_example(self):
        self.check_kinds(first_of_class((3, 2, 1), House("b-l")), (2, 1, 3))

    def test_against_the_search(self):
        for house in HOUSES:
            for n in range(7):
                for rows in search.classes(n, house.number):
                    for row in rows[::1 if n < 5 else len(rows) // 3 + 1]:
                        self.check_kinds(first_of_class(list(row), house), rows[0])

    def test_other_stones(self):
        weights = (-TOP, -8, 0, 5, TOP)
        for house in HOUSES:
            for rows in search.classes(5, house.number)[::3]:
                row = tuple(weights[stone - 1] for stone in rows[-1])
                expected = tuple(weights[stone - 1] for stone in rows[0])
                self.check_kinds(first_of_class(row, house), expected)

    def test_few_stones(self):
        for house in HOUSES:
            for row in ((), (5,), (1, 2), (2, 1)):
                self.check_kinds(first_of_class(list(row), house), row)

    def test_too_many_stones(self):
        for house in HOUSES:
            for row in (list(range(41)), tuple(range(41))):
                self.check_error(InvalidRow(row), first_of_class, row, house)

    def test_under_millbrook(self):
        for row in LONG_ROWS + MIDDLE_ROWS:
            self.check_kinds(first_of_class(row, House("l-h")), first_tame(row))

    def test_rows_of_seven_stones(self):
        for house in HOUSES[::2]:
            found = {}
            for row in search.rows(7)[::2]:
                found.setdefault(seal(row, house), row)
            for told, row in found.items():
                first = first_of_class(row, house)
                self.assertEqual(seal(first, house), told)
                self.assertTrue(first <= row)


class LongRows(MillTest):

    def check_first(self, row, house):
        """No stone can be moved forward past heavier ones so that the row stays in its class."""
        first = first_of_class(list(row), house)
        kept = seal(row, house)
        self.assertEqual(seal(first, house), kept)
        self.assertEqual(first_of_class(first, house), first)
        for index in range(len(row)):
            for goal in range(index):
                if first[index] < first[goal]:
                    self.assertNotEqual(seal(moved(first, index, goal), house), kept)

    def test_rows_of_some_length_under_every_house(self):
        for house in HOUSES:
            for row in MIDDLE_ROWS:
                self.check_first(row, house)

    def test_rows_of_forty_stones(self):
        for house in HOUSES[::3]:
            self.check_first(LONG_ROWS[house.number % 5], house)

    def test_the_first_row_depends_on_the_class_alone(self):
        for house in HOUSES:
            for row in LONG_ROWS:
                goal, _ = drawn_walk(row, house, 12, house.number)
                self.check_kinds(first_of_class(goal, house), first_of_class(row, house))

    def test_ascending_rows_are_the_first_of_their_classes(self):
        for house in HOUSES:
            for stones in (3, 7, 40):
                self.check_kinds(first_of_class(list(range(stones)), house), tuple(range(stones)))

    def test_descending_rows(self):
        down, up = tuple(range(40))[::-1], tuple(range(40))
        for house in HOUSES:
            sort = sort_of(house)[0]
            first = first_of_class(down, house)
            self.assertEqual(seal(first, house), seal(down, house))
            if sort in (14, 19, 20, 21, 22, 23):
                self.check_kinds(first, up)
        for text, expected in (
                ("l-", down), ("-h", down), ("b-", down), ("l-h", down), ("lb-", down), ("b-b", down),
                ("lbh-", (39, *range(39))), ("-lbh", (*range(1, 40), 0)), ("lh-", (39, *range(39))), ("lb-b", down),
                ("lbh-l", (1, 0, *range(2, 40))), ("lb-lb", (1, 0, *range(2, 40))), ("lh-lh", (*range(1, 39), 39, 0)),
                ("bh-lb", (*range(38), 39, 38)), ("bh-l", (1, 0, *range(2, 40)))):
            self.check_kinds(first_of_class(down, House(text)), expected)
