"""Logs of observed changes: which houses fit them and what they foretell [48] to [50]."""

from millbrook.changes import present_kinds
from millbrook.finer import finest_of, texts_of
from millbrook.houses import House, check_house, text_of_number
from millbrook.rows import check_place, check_row
from millbrook.values import check_answer, check_number, check_room

_MOST_LINES = 200


def _kinds_number(row, place):
    """The number of the house of all kinds at the place, 0 if there are none."""
    return sum([1 << index for index in present_kinds(row, place)])


def _frees(number, kinds):
    """Tells whether the house with the number names one of the kinds, which are given by the number of their house."""
    return number & kinds > 0


class Log:
    """A log of lines; it begins empty."""

    def __init__(self):
        # Each line as it was told, and the number of the kinds at its place.
        self._lines = []
        self._kinds = []

    def note(self, row, place, done):
        """Adds a line: whether the change at the place of the row was done or refused."""
        check_row(row)
        check_place(row, place)
        check_answer(done)
        check_room(len(self._lines), _MOST_LINES)
        self._lines.append((tuple(row), place, done))
        self._kinds.append(_kinds_number(row, place))

    def strike(self, index):
        """Removes the line with the index."""
        check_number(index, 0, len(self._lines) - 1)
        del self._lines[index]
        del self._kinds[index]

    def lines(self):
        """The lines in the order told."""
        return list(self._lines)

    def _wrong_for(self, number):
        """The indexes of the lines that do not fit the house with the number."""
        freed = [_frees(number, kinds) for kinds in self._kinds]
        return [index for index, line in enumerate(self._lines) if freed[index] != line[2]]

    def _fitting_numbers(self, wrong):
        """The numbers of the houses with at most so many wrong lines."""
        return [house.number for house in House.every() if len(self._wrong_for(house.number)) <= wrong]

    def wrong_lines(self, house):
        """The indexes of the lines that do not fit the house."""
        check_house(house)
        return self._wrong_for(house.number)

    def fitting(self, *, wrong=0):
        """The texts of the houses with at most so many wrong lines."""
        check_number(wrong, 0, _MOST_LINES)
        return texts_of(self._fitting_numbers(wrong))

    def greatest(self):
        """The text of the greatest fitting house, or None."""
        union = 0
        for number in self._fitting_numbers(0):
            union = union | number
        return None if union == 0 else text_of_number(union)

    def least(self):
        """The texts of the least fitting houses."""
        return finest_of(self._fitting_numbers(0))

    def least_wrong(self):
        """The least number of wrong lines of any house, and the texts of the houses that reach it."""
        many = min([len(self._wrong_for(house.number)) for house in House.every()])
        return many, texts_of(self._fitting_numbers(many))

    def culprits(self):
        """The indexes of the lines that fit none of the houses with the least number of wrong lines."""
        many = self.least_wrong()[0]
        wrong = [self._wrong_for(number) for number in self._fitting_numbers(many)]
        return [index for index in range(len(self._lines)) if all([index in lines for lines in wrong])]

    def foretold(self, row, place):
        """What the fitting houses say of the place of the row."""
        check_row(row)
        check_place(row, place)
        kinds = _kinds_number(row, place)
        answers = [_frees(number, kinds) for number in self._fitting_numbers(0)]
        if len(answers) == 0:
            return "none"
        if all(answers):
            return "free"
        return "open" if any(answers) else "barred"

    def twin(self):
        """An independent copy of the log."""
        other = Log()
        other._lines = list(self._lines)
        other._kinds = list(self._kinds)
        return other

    def __len__(self):
        return len(self._lines)
