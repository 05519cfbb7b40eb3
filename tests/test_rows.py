"""Rows, ranks, mirrors, turned couples and the texts of rows [2], [3], [8], [10]."""

from itertools import permutations

from millbrook.errors import InvalidNumber, InvalidRow, InvalidWeight, NoStone, StoneThere, TooMany
from millbrook.rows import every_row, flipped_row, mirrored_row, parse_row, put_in, ranks, row_text
from millbrook.rows import taken_out, turned
from tests.support import LONG_ROWS, TOP, MillTest

EVERY_SMALL = [row for n in range(6) for row in permutations((-7, 0, 2, 30, TOP)[:n])]


class Rows(MillTest):

    def test_rows_of_all_lengths_as_lists_and_tuples(self):
        for stones in range(41):
            for row in (tuple(range(stones)), list(range(stones))):
                self.check_kinds(mirrored_row(row), tuple(row)[::-1])
        for row in (tuple(range(41)), list(range(41))):
            self.check_error(InvalidRow(row), mirrored_row, row)

    def test_greatest_weights(self):
        self.check_kinds(ranks([TOP, -TOP, 0]), (3, 1, 2))
        for weight in (TOP + 1, -TOP - 1):
            self.check_error(InvalidRow((weight,)), ranks, (weight,))
            self.check_error(InvalidWeight(weight), put_in, (), weight, 0)
            self.check_error(InvalidWeight(weight), taken_out, (1,), weight)

    def test_a_stone_twice(self):
        for row in ((1, 1), [0, 5, 0], (*range(39), 38)):
            self.check_error(InvalidRow(row), ranks, row)

    def test_true_false_and_floats_are_no_stones(self):
        for row in ((True,), [False], (1.0,), [2, 3.0], (0, True)):
            self.check_error(InvalidRow(row), ranks, row)
        for weight in (True, False, 1.0):
            self.check_error(InvalidWeight(weight), taken_out, (0, 1), weight)
            self.check_error(InvalidWeight(weight), put_in, (5,), weight, 0)
            self.check_error(InvalidNumber(weight), put_in, (5,), 6, weight)

    def test_ranks(self):
        for row in EVERY_SMALL + list(LONG_ROWS):
            expected = tuple(len([other for other in row if other <= stone]) for stone in row)
            self.check_kinds(ranks(row), expected)
            self.check_kinds(ranks(list(row)), expected)

    def test_mirrored_row(self):
        for row in EVERY_SMALL + list(LONG_ROWS):
            self.check_kinds(mirrored_row(list(row)), tuple(reversed(row)))

    def test_flipped_row(self):
        for row in EVERY_SMALL + list(LONG_ROWS):
            flipped = flipped_row(list(row))
            self.check_kinds(sorted(flipped), sorted(row))
            self.check_kinds(ranks(flipped), tuple(len(row) + 1 - rank for rank in ranks(row)))
            self.check_kinds(flipped_row(flipped), tuple(row))
        self.check_kinds(flipped_row((3, 10, 7)), (10, 3, 7))

    def test_turned(self):
        for n in range(5):
            stones = (-3, 4, 5, 9)[:n]
            for first in permutations(stones):
                for second in permutations(stones):
                    expected = [
                        (x, y) for x in stones for y in stones
                        if x < y
                        and (first.index(x) < first.index(y)) != (second.index(x) < second.index(y))
                    ]
                    self.check_kinds(turned(first, list(second)), expected)

    def test_turned_in_long_rows(self):
        row = tuple(range(40))
        self.assertEqual(len(turned(row, row[::-1])), 780)
        self.check_kinds(turned(row, row), [])
        for first in LONG_ROWS:
            couples = turned(first, sorted(first))
            self.assertEqual(couples, sorted(couples))
            self.check_kinds(turned(sorted(first), first), couples)


class PutInAndTakenOut(MillTest):

    def test_put_in(self):
        for row in EVERY_SMALL:
            for index in range(len(row) + 1):
                expected = row[:index] + (1,) + row[index:]
                self.check_kinds(put_in(row, 1, index), expected)
                self.check_kinds(put_in(list(row), 1, index), expected)

    def test_put_in_up_to_forty_stones(self):
        row = tuple(range(39))
        for index in range(40):
            self.check_kinds(put_in(row, 77, index), row[:index] + (77,) + row[index:])

    def test_index_of_put_in(self):
        for row in EVERY_SMALL:
            self.check_error(InvalidNumber(-1), put_in, row, 1, -1)
            self.check_error(InvalidNumber(len(row) + 1), put_in, row, 1, len(row) + 1)
        self.check_error(InvalidNumber(41), put_in, range_row(40), 99, 41)

    def test_stone_there_comes_before_too_many_and_behind_the_arguments(self):
        self.check_error(StoneThere(2), put_in, (1, 2), 2, 0)
        self.check_error(StoneThere(39), put_in, range_row(40), 39, 40)
        self.check_error(TooMany(40, 41), put_in, range_row(40), 40, 40)
        self.check_error(InvalidNumber(3), put_in, (1, 2), 2, 3)
        self.check_error(InvalidNumber(41), put_in, range_row(40), 39, 41)

    def test_taken_out(self):
        for row in EVERY_SMALL + list(LONG_ROWS):
            for index, weight in enumerate(row):
                expected = row[:index] + row[index + 1:]
                self.check_kinds(taken_out(row, weight), expected)
                self.check_kinds(taken_out(list(row), weight), expected)
            self.check_error(NoStone(1234), taken_out, row, 1234)

    def test_taken_out_of_the_empty_row(self):
        self.check_error(NoStone(0), taken_out, (), 0)
        self.check_error(InvalidWeight("x"), taken_out, (), "x")


class EveryRow(MillTest):

    def test_all_rows_in_dictionary_order(self):
        for stones in ((), (5,), [5, -2], (3, 1, 2), [9, 7, 8, 1], (5, 3, 1, 4, 2), [6, 5, 4, 3, 2, 1, 0]):
            self.check_kinds(list(every_row(stones)), sorted(permutations(stones)))

    def test_no_stones_give_the_empty_row_alone(self):
        self.check_kinds(list(every_row([])), [()])

    def test_errors_come_when_the_first_row_is_asked_for(self):
        for stones, error in ((None, InvalidRow(None)), (range_row(8), TooMany(7, 8))):
            rows = every_row(stones)
            self.check_error(error, next, rows)


class Texts(MillTest):

    def test_texts(self):
        told = (((), "empty"), ((0,), "0"), ((-5,), "-5"), ((3, 1, 2), "3 1 2"), ((10, -1, 0), "10 -1 0"),
                ((TOP, -TOP), "1000000000000 -1000000000000"))
        for row, text in told:
            self.check_kinds(row_text(list(row)), text)
            self.check_kinds(parse_row(text), row)

    def test_every_text_is_read_again(self):
        longest = [-TOP + index for index in range(40)]
        for row in EVERY_SMALL + list(LONG_ROWS) + [tuple(longest)]:
            text = row_text(row)
            self.check_kinds(text, " ".join(str(weight) for weight in row) or "empty")
            self.check_kinds(parse_row(text), row)

    def test_the_longest_text(self):
        row = (-TOP, *range(1 - TOP, 40 - TOP))
        self.assertEqual(len(row_text(row)), 40 * 13 + 39 + 1)
        self.check_kinds(parse_row(row_text(row)), row)


def range_row(stones):
    """The ascending row of so many stones."""
    return tuple(range(stones))
