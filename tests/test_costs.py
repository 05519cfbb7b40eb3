"""Costs of couples, of walks, and least costs [36]."""

from millbrook.changes import rows_along
from millbrook.costs import Cost, GapCost, TableCost, least_cost, walk_cost
from millbrook.errors import Barred, InvalidCost, InvalidHouse, InvalidNumber, InvalidRow, InvalidTable
from millbrook.errors import InvalidWalk, NoExactDistance, UnlikeStones
from millbrook.houses import House
from millbrook.roads import road, shortest
from millbrook.rows import turned
from millbrook.sorts import grade_of
from tests import search, support
from tests.support import LONG_ROWS, TOP, MillTest, drawn_walk

HOUSES = House.every()
SEARCHED = [house for house in HOUSES if grade_of(house) == "none"]
CLOSED = [house for house in HOUSES if grade_of(house) != "none"]
TABLE = {(1, 2): 0, (1, 3): 7, (2, 3): 1, (2, 5): TOP, (3, 4): 2, (-5, 4): 9}
COSTS = (Cost(), Cost(0), Cost(3), GapCost(), GapCost(0), GapCost(5), TableCost(TABLE), TableCost(TABLE, 4),
         TableCost({}), TableCost({}, 0))
NOT_COUPLES = (
    (2, 1), (1, 1), (1,), (), (1, 2, 3), 1, 12, "12", "1-2", None, True, 1.5, b"12", (True, 2), (0, True), (False, 1),
    (1.0, 2), (1, 2.0), (1, None), (None, 2), ("1", "2"), ("1", 2), (1, (2,)), ((1, 2),), ((1, 2), (3, 4)), (1, TOP + 1),
    (-TOP - 1, 0), (0, 10**5000), frozenset((1, 2)), support.Anything(), support.Odd, len,
)
NOT_COSTS = support.NOT_INTEGERS + (-1, TOP + 1, 10**5000, -10**5000, (1, 2), [1])
NOT_TABLES = tuple(value for value in support.NOT_INTEGERS if not isinstance(value, dict)) + (
    0, 1, -1, [((1, 2), 3)], (((1, 2), 3),), [(1, 2)], [[1, 2], 3], {(1, 2)}, "{}", (1, 2, 3),
) + tuple({key: 1} for key in NOT_COUPLES) + tuple({(1, 2): worth} for worth in NOT_COSTS) + (
    {(1, 2): 1, (3, 2): 1}, {(3, 2): 1, (1, 2): 1}, {(1, 2): 1, (1, 3): True}, {(1, 2): 1.0, (1, 3): 1})


def plain_cost(cost, x, y):
    """The cost of a couple by the words of [36], for the costs above."""
    if isinstance(cost, GapCost):
        return cost.base + y - x
    return TABLE.get((x, y), cost.base) if cost in COSTS[6:8] else cost.base


class Couples(MillTest):

    def test_costs_of_couples(self):
        couples = [(a, b) for a in range(-5, 7) for b in range(a + 1, 7)] + [(-TOP, TOP), (TOP - 1, TOP)]
        for cost in COSTS:
            for x, y in couples:
                self.check_kinds(cost.of(x, y), plain_cost(cost, x, y))
                self.check_kinds(cost(x, y), plain_cost(cost, x, y))
                self.check_kinds(cost(lighter=x, heavier=y), cost.of(lighter=x, heavier=y))

    def test_examples(self):
        self.check_kinds([Cost(4).of(1, 9), GapCost(4).of(1, 9), TableCost({(1, 9): 2}, 4).of(1, 9)], [4, 12, 2])
        self.check_kinds([TableCost({(1, 9): 2}, 4).of(1, 8), TableCost({(1, 9): 0}, 4)(1, 9)], [4, 0])
        self.check_kinds(GapCost(TOP).of(-TOP, TOP), 3 * TOP)

    def test_bases(self):
        for made in (Cost, GapCost, lambda base=1: TableCost({}, base)):
            self.check_kinds(made().base, 1)
            for base in (0, 1, 2, TOP):
                self.check_kinds(made(base).base, base)
                self.check_kinds(made(base=base).base, base)
            for bad in NOT_COSTS:
                self.check_error(InvalidNumber(bad), made, bad)
                self.check_error(InvalidNumber(bad), made, base=bad)

    def test_entries(self):
        for worth in (0, 1, TOP):
            cost = TableCost({(-TOP, TOP): worth}, 5)
            self.check_kinds([cost(-TOP, TOP), cost(0, TOP)], [worth, 5])

    def test_tables_that_are_none(self):
        for bad in NOT_TABLES:
            self.check_error(InvalidTable(bad), TableCost, bad)
            self.check_error(InvalidTable(bad), TableCost, bad, -1)
            self.check_error(InvalidTable(bad), TableCost, table=bad, base=None)
        self.check_error(InvalidNumber(-1), TableCost, {}, -1)
        self.check_error(InvalidNumber(True), TableCost, TABLE, base=True)

    def test_a_table_that_the_caller_changes(self):
        table = {(1, 2): 3}
        cost = TableCost(table)
        table[(1, 2)] = 8
        table[(1, 3)] = 9
        self.check_kinds([cost.of(1, 2), cost.of(1, 3)], [3, 1])
        table.clear()
        self.check_kinds([cost.of(1, 2), cost(1, 2)], [3, 3])
        self.assertEqual(TABLE, {(1, 2): 0, (1, 3): 7, (2, 3): 1, (2, 5): TOP, (3, 4): 2, (-5, 4): 9})

    def test_the_order_of_the_entries_means_nothing(self):
        one, other = TableCost(TABLE), TableCost(dict(list(TABLE.items())[::-1]))
        for x in range(-5, 6):
            for y in range(x + 1, 6):
                self.assertEqual(one.of(x, y), other.of(x, y))

    def test_classes(self):
        for made in (GapCost, TableCost):
            self.assertEqual(made.__bases__, (Cost,))
        self.assertEqual(Cost.__bases__, (object,))


class Walks(MillTest):

    def test_drawn_walks(self):
        for house in HOUSES:
            for row in ((1, 2, 3, 4, 5), (3, 1, 5, 2, 4), (5, 4, 3, 2, 1), (3, 1, 2)) + LONG_ROWS[:2]:
                goal, walk = drawn_walk(row, house, 12, house.number)
                rows = list(rows_along(row, walk, house))
                couples = [sorted(present[place:place + 2]) for present, place in zip(rows, walk)]
                for cost in COSTS:
                    expected = sum(plain_cost(cost, x, y) for x, y in couples)
                    self.check_kinds(walk_cost(list(row), tuple(walk), house, cost), expected)
                    self.check_kinds(walk_cost(row, walk, house, cost), expected)

    def test_example(self):
        house = House("l-h")
        self.check_kinds(walk_cost((1, 3, 2), [1, 0], house, GapCost(0)), 2)
        self.check_kinds(walk_cost((1, 3, 2), [1, 0], house, TableCost({(2, 3): 10}, 4)), 14)
        self.check_kinds(walk_cost((1, 3, 2), [1, 1, 1, 0], house, TableCost({(2, 3): 10}, 4)), 34)

    def test_empty_walks(self):
        for row in ((), (5,), (1, 2), tuple(range(40))):
            for walk in ([], ()):
                self.check_kinds(walk_cost(row, walk, House("l-"), Cost(7)), 0)

    def test_long_walks(self):
        row = tuple(range(40))
        self.check_kinds(walk_cost(row, [38] * 20000, House("l-h"), Cost(TOP)), 20000 * TOP)
        self.check_error(InvalidWalk([38] * 20001), walk_cost, row, [38] * 20001, House("l-h"), Cost())

    def test_barred_places(self):
        house = House("l-h")
        self.check_error(Barred(0, 0), walk_cost, (1, 2), [0], house, Cost())
        self.check_error(Barred(2, 2), walk_cost, (1, 2, 3, 4), [0, 1, 2, 2], house, GapCost())

    def test_values_that_are_no_costs(self):
        for bad in support.NOT_INTEGERS + (1, 0, Cost, GapCost, TABLE, lambda lighter, heavier: 1):
            self.check_error(InvalidCost(bad), walk_cost, (1, 2, 3), [1], House("l-"), bad)
            # Barred comes behind, the checks of the other arguments before.
            self.check_error(InvalidCost(bad), walk_cost, (1, 2), [0], House("l-"), bad)
            self.check_error(InvalidHouse("l-"), walk_cost, (1, 2), [0], "l-", bad)
            self.check_error(InvalidWalk([1]), walk_cost, (1, 2), [1], House("l-"), bad)
            self.check_error(InvalidRow(None), walk_cost, None, [1], House("l-"), bad)

    def test_a_cost_of_an_own_class(self):

        class Doubled(GapCost):

            def of(self, lighter, heavier):
                return 2 * GapCost.of(self, lighter, heavier)

        self.check_kinds(walk_cost((1, 3, 2), [1, 0], House("l-h"), Doubled(0)), 4)
        self.check_kinds(least_cost((1, 3, 2), (2, 1, 3), House("l-h"), Doubled(0)), 4)


class LeastCosts(MillTest):

    def test_every_pair_of_small_rows(self):
        for house in CLOSED:
            for n in range(5):
                for cost in COSTS[::1 if n < 4 else 3]:
                    for first in search.rows(n)[::1 if n < 4 else 3]:
                        found = search.least_costs(first, house.number, cost)
                        for second in search.rows(n):
                            self.check_kinds(least_cost(list(first), second, house, cost), found.get(second))

    def test_rows_of_five_stones(self):
        for house in CLOSED:
            for first, cost in (((3, 1, 2, 5, 4), COSTS[5]), ((1, 2, 3, 4, 5), COSTS[7])):
                found = search.least_costs(first, house.number, cost)
                for second in search.rows(5)[::2]:
                    self.check_kinds(least_cost(first, list(second), house, cost), found.get(second))

    def test_turned_couples_and_shortest_walks(self):
        for house in CLOSED:
            for row in LONG_ROWS[:4]:
                goal, walk = drawn_walk(row, house, 20, house.number)
                for cost in COSTS:
                    least = least_cost(row, goal, house, cost)
                    self.check_kinds(least, sum(plain_cost(cost, x, y) for x, y in turned(row, goal)))
                    self.assertLessEqual(least, walk_cost(row, walk, house, cost))
                self.check_kinds(walk_cost(row, shortest(row, goal, house), house, COSTS[5]),
                                 least_cost(row, goal, house, COSTS[5]))

    def test_rows_of_few_stones(self):
        for house in CLOSED:
            for row in ((), (7,), (7, 3), tuple(range(40))):
                self.check_kinds(least_cost(list(row), row, house, Cost(9)), 0)
            self.assertIsNone(least_cost((3, 7), (7, 3), house, Cost(0)))

    def test_houses_without_exact_distances(self):
        for house in SEARCHED:
            for first, second in (((), ()), ((1, 2), [2, 1]), ((1, 2, 3), (1, 2, 3)), (tuple(range(40)), tuple(range(40)))):
                self.check_error(NoExactDistance(house), least_cost, first, second, house, Cost())
            row, goal = (3, 1, 2, 4), (3, 1, 2, 4)
            self.check_kinds(walk_cost(row, road(row, goal, house), house, Cost()), 0)

    def test_the_order_of_the_errors(self):
        for house in HOUSES:
            for bad in (None, 1, Cost, {}):
                self.check_error(InvalidCost(bad), least_cost, (1, 2), [1, 3], house, bad)
                self.check_error(InvalidCost(bad), least_cost, (1, 2), [1, 2], house, bad)
            self.check_error(UnlikeStones((1, 2), [1, 3]), least_cost, (1, 2), [1, 3], house, Cost())
        self.check_error(InvalidHouse(None), least_cost, (1, 2), (1, 3), None, None)
        self.check_error(InvalidRow((1, 1)), least_cost, (1, 2), (1, 1), None, None)
        for bad in support.NOT_INTEGERS + (1, 0, Cost, GapCost, TABLE):
            self.check_error(InvalidCost(bad), least_cost, (1, 2), (2, 1), House("l-"), bad)
