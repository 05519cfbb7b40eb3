"""Bound pairs, widths, numbers and first rows [21], [22], [23]."""

from millbrook.bound import bound_pairs, first_tame, row_at, row_index, width
from millbrook.errors import InvalidNumber, InvalidRow, TooMany
from millbrook.far import comes_tame, covers, far_couples
from millbrook.tame import tame_places
from tests import plain, support
from tests.support import LONG_BAG_ROWS, SHORT_BAG_ROWS, MillTest

BAGS = plain.bags(5)
SIX = ((1, 2, 3, 4, 5, 6), (1, 1, 2, 2, 3, 3), (1, 2, 2, 2, 3, 4), (1, 1, 1, 2, 3, 4))


def by_rules(row):
    """The bound pairs by the three rules and chains of [21]."""
    couples = plain.far_couples(row)
    count = range(len(row))
    told = {(i, j) for i in count for j in count if i < j and row[i] == row[j]}
    for a, b in couples:
        told.add((row.index(a), max(at for at, weight in enumerate(row) if weight == b)))
    for i in count:
        for j in count:
            if row[i] > row[j] and not any(covers(couple, (row[j], row[i])) for couple in couples):
                told.add((i, j))
    while True:
        more = {(i, m) for i, j in told for k, m in told if j == k} - told
        if not more:
            return sorted(told)
        told |= more


class Bound(MillTest):

    def test_bound_pairs_against_the_rows_that_come_of_the_row(self):
        for weights in BAGS:
            for row in plain.bag_rows(weights):
                self.check_kinds(bound_pairs(list(row)), plain.bound_pairs(row))
        for weights in SIX:
            for row in plain.bag_rows(weights)[::17]:
                self.check_kinds(bound_pairs(row), plain.bound_pairs(row))

    def test_bound_pairs_by_the_rules(self):
        for row in LONG_BAG_ROWS[2:4] + LONG_BAG_ROWS[5:8] + SHORT_BAG_ROWS:
            self.check_kinds(bound_pairs(row), by_rules(row))

    def test_bound_pairs_of_plain_rows(self):
        every = [(i, j) for i in range(40) for j in range(i + 1, 40)]
        self.check_kinds(bound_pairs((5,) * 40), every)
        self.check_kinds(bound_pairs(tuple(range(40))[::-1]), every)
        self.check_kinds(bound_pairs(tuple(range(40))), [(0, 39)])
        self.check_kinds(bound_pairs((1, 2, 3)), [(0, 2)])
        for row in ((), [5]):
            self.check_kinds(bound_pairs(row), [])
        for row in ((1, 2), (2, 1), (2, 2)):
            self.check_kinds(bound_pairs(row), [(0, 1)])

    def test_the_orders_that_respect_the_pairs_are_the_class(self):
        for weights in plain.bags(4) + [(1, 2, 2, 3, 4), (1, 2, 3, 4, 5)]:
            for row in plain.bag_rows(weights)[::5]:
                stones, pairs = plain.named(row), bound_pairs(row)
                for other in plain.bag_rows(weights):
                    order = [plain.named(other).index(stone) for stone in stones]
                    respects = all(order[i] < order[j] for i, j in pairs)
                    self.assertIs(respects, comes_tame(row, other))


class Numbers(MillTest):

    def test_widths_numbers_and_first_rows(self):
        for weights in list(BAGS) + list(SIX):
            for rows in map(sorted, plain.classes(weights)):
                for number, row in list(enumerate(rows))[::1 if len(weights) < 6 else 5]:
                    self.check_kinds(width(list(row)), len(rows))
                    self.check_kinds(row_index(list(row)), number)
                    self.check_kinds(first_tame(list(row)), rows[0])
                    self.check_kinds(row_at(rows[-1 - number], number), row)
                for index in (-1, len(rows), len(rows) + 1, 10**5000):
                    self.check_error(InvalidNumber(index), row_at, rows[0], index)

    def test_rows_of_ten_stones(self):
        for row in SHORT_BAG_ROWS:
            many = width(row)
            found = [row_at(row, index) for index in range(0, many, max(many // 60, 1))]
            self.assertEqual(found, sorted(set(found)))
            for other in found:
                self.assertTrue(comes_tame(row, other))
                self.assertEqual(row_at(other, row_index(other)), other)
            self.check_kinds(row_at(list(row), row_index(row)), row)
            self.check_kinds(row_at(row, 0), first_tame(row))
            self.check_kinds(row_index(row_at(row, many - 1)), many - 1)
            for index in (-1, many, True, False, 0.0, None):
                self.check_error(InvalidNumber(index), row_at, row, index)

    def test_numbers_of_ten_ascending_stones(self):
        # Only the lightest and the heaviest stone are bound to one another.
        row = tuple(range(10))
        self.check_kinds(width(row), 1814400)
        self.check_kinds(row_index(row), 0)
        self.check_kinds(row_at(row, 1814399), (8, 7, 6, 5, 4, 3, 2, 1, 0, 9))
        self.check_kinds(width((5,) * 10), 1)
        self.check_kinds(width(row[::-1]), 1)

    def test_rows_of_ten_stones_against_a_search(self):
        for row in ((4, 9, 2, 8, 0, 7, 1, 6, 3, 5), (7, 4, 9, 5, 3, 6, 1, 8, 0, 2),
                    (3, 3, 2, 4, 1, 1, 3, 0, 0, 2), (2, 2, 1, 1, 2, 1, 0, 0, 1, 0)):
            rows = sorted(plain.distances(row, plain.is_tame))
            self.check_kinds(width(row), len(rows))
            self.check_kinds(row_index(row), rows.index(row))
            self.check_kinds(first_tame(row), rows[0])
            self.assertEqual([row_at(row, index) for index in range(0, len(rows), 7)], rows[::7])

    def test_rows_of_all_lengths(self):
        for stones in range(11):
            for row in (tuple(range(stones)), (3,) * stones, tuple(at // 2 for at in range(stones))):
                self.assertEqual(row_at(row, row_index(row)), row)
                self.assertEqual(row_index(row), 0)
                self.assertTrue(width(row) >= 1)
        for function in (width, row_index):
            self.check_error(TooMany(10, 11), function, [1] * 11)
            self.check_error(TooMany(10, 11), function, tuple(range(11)))
        self.check_error(TooMany(10, 11), row_at, tuple(range(11)), 0)
        self.check_error(TooMany(10, 40), row_at, (1,) * 40, None)

    def test_no_stones_and_one(self):
        for row in ((), (5,)):
            self.check_kinds([width(row), row_index(row), row_at(row, 0), first_tame(row)], [1, 0, row, row])
            self.check_error(InvalidNumber(1), row_at, row, 1)

    def test_example(self):
        self.check_kinds(
            [width((1, 2, 3)), row_at((2, 1, 3), 1), bound_pairs((1, 2, 3))], [3, (1, 3, 2), [(0, 2)]])


class First(MillTest):

    def test_first_rows_of_forty_stones(self):
        for row in LONG_BAG_ROWS:
            first = first_tame(list(row))
            self.assertTrue(comes_tame(row, first))
            self.check_kinds(first_tame(first), first)
            self.assertTrue(first <= row)
            for place in tame_places(first):
                self.assertTrue(plain.change(first, place) > first)

    def test_the_first_row_is_that_of_the_greedy_rule(self):
        for row in LONG_BAG_ROWS:
            pairs = bound_pairs(row)
            left = list(range(len(row)))
            found = []
            while left:
                ready = [j for j in left if not any(k == j and i in left for i, k in pairs)]
                found.append(min(ready, key=lambda index: row[index]))
                left.remove(found[-1])
            self.check_kinds(first_tame(row), tuple(row[index] for index in found))

    def test_too_many_stones(self):
        for row in ([1] * 41, tuple(range(41))):
            self.check_error(InvalidRow(row), first_tame, row)
            self.check_error(InvalidRow(row), bound_pairs, row)

    def test_rows_that_come_of_a_row_share_the_first_row(self):
        for row in LONG_BAG_ROWS:
            present = row
            for step in range(60):
                places = tame_places(present)
                if not places:
                    break
                present = plain.change(present, places[step * 5 % len(places)])
            self.check_kinds(first_tame(present), first_tame(row))


class Stuck(MillTest):

    def test_stuck_rows_come_of_no_other(self):
        for weights in BAGS:
            for rows in plain.classes(weights):
                for row in rows:
                    self.assertIs(tame_places(row) == [], len(rows) == 1)
        for row in ((), (1,), (2, 1), (1, 1), (3, 3, 2, 1), (5,) * 10, support.shuffled(range(10), 9)):
            if not tame_places(row):
                self.assertEqual(width(row), 1)

    def test_far_couples_of_stuck_rows(self):
        self.assertEqual(far_couples((1, 2)), [(1, 2)])
        self.assertEqual(tame_places((3, 4, 1, 2)), [])
        self.assertEqual(width((3, 4, 1, 2)), 1)
