"""Ledgers of told facts: which rows come of one another, what follows, and why [54] to [57]."""

from itertools import combinations

from millbrook.chains import between, both_ways, groups_of, leaders, way_along
from millbrook.errors import Conflict, NameThere, NoName
from millbrook.finer import coarsest_of, finest_of, is_finer_number
from millbrook.houses import House, check_house, text_of_number
from millbrook.names import check_name, is_name
from millbrook.rows import check_alike, check_row
from millbrook.seals import seal_of
from millbrook.values import check_answer, check_number, check_room

_MOST_NAMES = 12
_MOST_LINES = 60


def _coarser_numbers(number):
    """The numbers of the houses than which the house with the number is finer, in ascending order."""
    return [house.number for house in House.every() if is_finer_number(number, house.number)]


def _links_under(line, number):
    """Tells whether the line links its names under the house with the number."""
    return line[3] and is_finer_number(line[0], number)


def _splits_under(line, number):
    """Tells whether the line splits its names under the house with the number."""
    return not line[3] and is_finer_number(number, line[0])


class Ledger:
    """A ledger of names and lines; it begins empty."""

    def __init__(self):
        # The row of each name, or None, in the order in which the names were added.
        self._row_of_name = {}
        # The seals of each bound name under all houses in ascending order of their numbers.
        self._seals_of_name = {}
        # The number of the house of each line, its two names, and whether it tells that their rows are joined.
        self._told = []

    def _check_known(self, name):
        """Raises NoName unless the ledger has the name."""
        if not is_name(name) or name not in self._row_of_name:
            raise NoName(name)

    def _check_asked(self, house, one, other):
        """Checks a house and two names."""
        check_house(house)
        self._check_known(one)
        self._check_known(other)

    def add_name(self, name, row=None):
        """Adds a name, which is bound if a row is given."""
        check_name(name)
        if row is not None:
            check_row(row)
        if name in self._row_of_name:
            raise NameThere(name)
        bound = list(self._seals_of_name)
        if row is not None and len(bound) > 0:
            check_alike(self._row_of_name[bound[0]], row)
        check_room(len(self._row_of_name), _MOST_NAMES)
        self._row_of_name[name] = None if row is None else tuple(row)
        if row is not None:
            self._seals_of_name[name] = [seal_of(row, house) for house in House.every()]

    def names(self):
        """The names in ascending order."""
        return sorted(self._row_of_name)

    def row_of(self, name):
        """The row of the name, or None."""
        self._check_known(name)
        return self._row_of_name[name]

    def _bound_steps(self, number):
        """The pairs of bound names, each with whether their seals under the house with the number are the same."""
        seals = {name: self._seals_of_name[name][number - 1] for name in self._seals_of_name}
        return [(seals[one] == seals[other], one, other) for one, other in combinations(seals, 2)]

    def _links(self, lines, number):
        """The links of the lines and of the bound names under the house with the number, as steps."""
        told = [("line", index, line[1], line[2]) for index, line in enumerate(lines) if _links_under(line, number)]
        return told + [("seal", one, other) for same, one, other in self._bound_steps(number) if same]

    def _splits(self, lines, number):
        """The splits of the lines and of the bound names under the house with the number, as steps."""
        told = [("split line", index, line[1], line[2]) for index, line in enumerate(lines)
                if _splits_under(line, number)]
        return told + [("split seal", one, other) for same, one, other in self._bound_steps(number) if not same]

    def _is_torn(self, lines, number):
        """Tells whether some two names of one group were split under the house with the number by these lines."""
        leader = leaders(self._row_of_name, self._links(lines, number))
        return any([leader[split[-2]] == leader[split[-1]] for split in self._splits(lines, number)])

    def _is_conflict(self, line):
        """Tells whether the line is a conflict."""
        lines = [*self._told, line]
        numbers = [house.number for house in House.every()]
        # Under the other houses nothing changes.
        touched = [number for number in numbers if _links_under(line, number) or _splits_under(line, number)]
        return any([self._is_torn(lines, number) for number in touched])

    def tell(self, house, one, other, same):
        """Adds a line: whether the rows of the two names come of one another under the house."""
        self._check_asked(house, one, other)
        check_answer(same)
        check_room(len(self._told), _MOST_LINES)
        line = (house.number, one, other, same)
        if self._is_conflict(line):
            raise Conflict(house, one, other)
        self._told.append(line)

    def strike(self, index):
        """Removes the line with the index."""
        check_number(index, 0, len(self._told) - 1)
        del self._told[index]

    def lines(self):
        """The lines in the order told."""
        return [(text_of_number(number), one, other, same) for number, one, other, same in self._told]

    def _are_same(self, number, one, other):
        """Tells whether the two names are in one group under the house with the number."""
        leader = leaders(self._row_of_name, self._links(self._told, number))
        return leader[one] == leader[other]

    def _splits_between(self, number, one, other):
        """The splits under the house with the number between the groups of the names, from the one to the other."""
        leader = leaders(self._row_of_name, self._links(self._told, number))
        splits = both_ways(self._splits(self._told, number))
        return [split for split in splits if between(leader, split, one, other)]

    def _parting_numbers(self, one, other):
        """The numbers of the houses under which the groups of the two names are split."""
        numbers = [house.number for house in House.every()]
        return [number for number in numbers if len(self._splits_between(number, one, other)) > 0]

    def _splits_for(self, number, one, other):
        """The pairs of the number of a house that shows that the names are apart, and a split under it."""
        return [(coarser, split) for coarser in _coarser_numbers(number)
                for split in self._splits_between(coarser, one, other)]

    def standing(self, house, one, other):
        """What follows for the two names under the house: same, apart or open."""
        self._check_asked(house, one, other)
        if self._are_same(house.number, one, other):
            return "same"
        return "apart" if len(self._splits_for(house.number, one, other)) > 0 else "open"

    def reason(self, house, one, other):
        """The text of a house and the steps that show the standing, or None if it is open."""
        self._check_asked(house, one, other)
        if self._are_same(house.number, one, other):
            return house.text, way_along(self._links(self._told, house.number), one, other)
        splits = self._splits_for(house.number, one, other)
        if len(splits) == 0:
            return None
        number, split = splits[0]
        links = self._links(self._told, number)
        steps = way_along(links, one, split[-2]) + [split] + way_along(links, split[-1], other)
        return text_of_number(number), steps

    def groups(self, house):
        """The groups under the house as lists of names."""
        check_house(house)
        return groups_of(self._row_of_name, self._links(self._told, house.number))

    def finest(self, one, other):
        """The texts of the finest houses under which the two names are the same."""
        self._check_known(one)
        self._check_known(other)
        numbers = [house.number for house in House.every()]
        return finest_of([number for number in numbers if self._are_same(number, one, other)])

    def coarsest_apart(self, one, other):
        """The texts of the coarsest houses under which the two names are apart."""
        self._check_known(one)
        self._check_known(other)
        # The names are apart under these houses and all finer ones, so the coarsest are among these.
        return coarsest_of(self._parting_numbers(one, other))

    def twin(self):
        """An independent copy of the ledger."""
        other = Ledger()
        other._row_of_name = dict(self._row_of_name)
        other._seals_of_name = dict(self._seals_of_name)
        other._told = list(self._told)
        return other

    def __len__(self):
        return len(self._told)
