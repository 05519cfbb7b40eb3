"""Costs of changes and of walks [36]."""

from millbrook.changes import rows_along
from millbrook.errors import InvalidCost, InvalidTable, NoExactDistance
from millbrook.houses import check_house
from millbrook.rows import check_alike, check_row, check_walk, is_weight, turned
from millbrook.seals import are_one_class
from millbrook.sorts import grade
from millbrook.values import check_number, is_number

_MOST_COST = 10**12


def _is_couple(value):
    """Tells whether the value is a couple of weights, the lighter one first."""
    if not isinstance(value, tuple) or len(value) != 2:
        return False
    return is_weight(value[0]) and is_weight(value[1]) and value[0] < value[1]


def _check_table(table):
    """Raises InvalidTable unless this is a dict of couples and numbers."""
    if not isinstance(table, dict):
        raise InvalidTable(table)
    if not all([_is_couple(key) and is_number(table[key], 0, _MOST_COST) for key in table]):
        raise InvalidTable(table)


def _check_cost(cost):
    """Raises InvalidCost unless this is a cost."""
    if not isinstance(cost, Cost):
        raise InvalidCost(cost)


class Cost:
    """Gives each couple the same cost, its base."""

    def __init__(self, base=1):
        check_number(base, 0, _MOST_COST)
        self.base = base

    def of(self, lighter, heavier):
        """The cost of the couple."""
        return self.base

    def __call__(self, lighter, heavier):
        return self.of(lighter, heavier)


class GapCost(Cost):
    """Gives a couple the base and the difference of its weights."""

    def __init__(self, base=1):
        Cost.__init__(self, base)

    def of(self, lighter, heavier):
        """The cost of the couple."""
        return self.base + heavier - lighter

    def __call__(self, lighter, heavier):
        return self.of(lighter, heavier)


class TableCost(Cost):
    """Gives a couple its entry in a table, or the base if it has none."""

    def __init__(self, table, base=1):
        _check_table(table)
        Cost.__init__(self, base)
        self._entries = {couple: table[couple] for couple in table}

    def of(self, lighter, heavier):
        """The cost of the couple."""
        return self._entries.get((lighter, heavier), self.base)

    def __call__(self, lighter, heavier):
        return self.of(lighter, heavier)


def _cost_at(row, place, cost):
    """The cost of the change at the place."""
    lighter, heavier = sorted(row[place:place + 2])
    return cost.of(lighter, heavier)


def walk_cost(row, walk, house, cost):
    """The cost of the walk, all changes of which must be allowed under the house."""
    check_row(row)
    check_walk(row, walk)
    check_house(house)
    _check_cost(cost)
    rows = list(rows_along(row, walk, house))
    return sum([_cost_at(present, place, cost) for present, place in zip(rows, walk)])


def least_cost(first, second, house, cost):
    """The least cost of a walk from the first row to the second one, or None."""
    check_row(first)
    check_row(second)
    check_house(house)
    _check_cost(cost)
    check_alike(first, second)
    if grade(house) == "none":
        raise NoExactDistance(house)
    if not are_one_class(first, second, house):
        return None
    return sum([cost.of(lighter, heavier) for lighter, heavier in turned(first, second)])
