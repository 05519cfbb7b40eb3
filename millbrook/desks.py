"""Desks: a row that is changed step by step, with undo, marks and several deeds at once [58] to [64]."""

from millbrook.changes import nearest_helper
from millbrook.errors import Apart, Barred, DeedRefused, Full, InvalidDeeds, MillError, NameThere, NoName
from millbrook.errors import NothingToRedo, NothingToUndo
from millbrook.houses import check_house
from millbrook.names import check_name, is_name
from millbrook.roads import road
from millbrook.rows import check_row, swapped
from millbrook.values import check_number

_MOST_LIMIT = 1000
_MOST_DEEDS = 100
# The number of items of each form of a deed.
_FORMS = {"change": 2, "undo": 1, "redo": 1, "drop": 2, "mark": 2, "go": 2, "lead": 2}


def _entry_of(row, place, house):
    """The entry of a change at the place of the row, or None if the place is barred."""
    helper = nearest_helper(row, place, house)
    return None if helper is None else (place, row[place], row[place + 1], helper)


def _tried_again(row, entry, house):
    """The entry that a change of the same two stones gives in the row, or None if it is not possible."""
    place = row.index(entry[1])
    if row[place + 1:place + 2] != (entry[2],):
        return None
    return _entry_of(row, place, house)


def _without(history, present, index, house):
    """The history and the present row after an entry is taken out, and the indexes of the later entries that go."""
    row = present
    for entry in history[index:][::-1]:
        row = swapped(row, entry[0])
    kept, gone = list(history[:index]), []
    for at in range(index + 1, len(history)):
        entry = _tried_again(row, history[at], house)
        if entry is None:
            gone.append(at)
        else:
            kept.append(entry)
            row = swapped(row, entry[0])
    return (tuple(kept), row), gone


def _has_form(deed):
    """Tells whether the value has the form of one of several deeds."""
    if not isinstance(deed, tuple) or len(deed) == 0 or not isinstance(deed[0], str):
        return False
    return _FORMS.get(deed[0]) == len(deed)


class Desk:
    """A desk with the row under the house; its history begins empty."""

    def __init__(self, row, house, limit=100):
        check_row(row)
        check_house(house)
        check_number(limit, 0, _MOST_LIMIT)
        self.house = house
        self._limit = limit
        # A state is a pair of a history and the row to which it leads; both are tuples and never change.
        self._state = ((), tuple(row))
        self._to_undo = []
        self._to_redo = []
        self._state_of_mark = {}

    @property
    def present(self):
        """The present row."""
        return self._state[1]

    @property
    def spare(self):
        """The number of changes that the limit still allows."""
        return max(self._limit - len(self._state[0]), 0)

    @property
    def limit(self):
        """The greatest length of the history that change and lead may make."""
        return self._limit

    @limit.setter
    def limit(self, limit):
        self.set_limit(limit)

    def set_limit(self, limit):
        """Assigns the limit."""
        check_number(limit, 0, _MOST_LIMIT)
        self._limit = limit

    def _enter(self, state):
        """Makes this the present state, as one deed."""
        self._to_undo.append(self._state)
        self._to_redo.clear()
        self._state = state

    def change(self, place):
        """Makes a change of the present row."""
        history, row = self._state
        # This checks the place.
        entry = _entry_of(row, place, self.house)
        if entry is None:
            raise Barred(place, 0)
        if len(history) >= self._limit:
            raise Full(self._limit)
        self._enter((history + (entry,), swapped(row, place)))

    def undo(self):
        """Restores the history from before the last deed that has not been undone."""
        if len(self._to_undo) == 0:
            raise NothingToUndo()
        self._to_redo.append(self._state)
        self._state = self._to_undo.pop()

    def redo(self):
        """Restores the history from behind the deed undone last."""
        if len(self._to_redo) == 0:
            raise NothingToRedo()
        self._to_undo.append(self._state)
        self._state = self._to_redo.pop()

    def history(self):
        """The entries of the history in order."""
        return list(self._state[0])

    def _check_entry(self, index):
        """Raises InvalidNumber unless the history has an entry with the index."""
        check_number(index, 0, len(self._state[0]) - 1)

    def drop(self, index):
        """Takes the entry with the index out and returns the old indexes of the later entries that went."""
        self._check_entry(index)
        history, row = self._state
        state, gone = _without(history, row, index, self.house)
        self._enter(state)
        return gone

    def blame(self, index):
        """The list that drop would return."""
        self._check_entry(index)
        history, row = self._state
        return _without(history, row, index, self.house)[1]

    def mark(self, name):
        """Keeps the present history under the name."""
        check_name(name)
        if name in self._state_of_mark:
            raise NameThere(name)
        self._state_of_mark[name] = self._state

    def _check_mark(self, name):
        """Raises NoName unless this is the name of a mark."""
        if not is_name(name) or name not in self._state_of_mark:
            raise NoName(name)

    def unmark(self, name):
        """Removes the mark."""
        self._check_mark(name)
        del self._state_of_mark[name]

    def go(self, name):
        """Makes the history of the mark the present one."""
        self._check_mark(name)
        self._enter(self._state_of_mark[name])

    def marks(self):
        """The names of the marks in ascending order."""
        return sorted(self._state_of_mark)

    def lead(self, goal):
        """Makes the changes of the road from the present row to the goal and returns their number."""
        history, row = self._state
        # This checks the goal.
        walk = road(row, goal, self.house)
        if walk is None:
            raise Apart(row, goal)
        if len(history) + len(walk) > self._limit:
            raise Full(self._limit)
        entries = []
        for place in walk:
            entries.append(_entry_of(row, place, self.house))
            row = swapped(row, place)
        self._enter((history + tuple(entries), row))
        return len(walk)

    def _do(self, deed):
        """Makes one of several deeds, which has the form of one."""
        if deed[0] == "change":
            self.change(deed[1])
        elif deed[0] == "undo":
            self.undo()
        elif deed[0] == "redo":
            self.redo()
        elif deed[0] == "drop":
            self.drop(deed[1])
        elif deed[0] == "mark":
            self.mark(deed[1])
        elif deed[0] == "go":
            self.go(deed[1])
        else:
            self.lead(deed[1])

    def _succeeds(self, deed):
        """Makes the deed if it has the form of one and no error comes, and tells whether that was so."""
        if not _has_form(deed):
            return False
        try:
            self._do(deed)
        except MillError:
            return False
        return True

    def run(self, deeds):
        """Makes all the deeds in order, or none, and returns their number."""
        if not isinstance(deeds, (list, tuple)) or len(deeds) > _MOST_DEEDS:
            raise InvalidDeeds(deeds)
        trial = self.twin()
        for index, deed in enumerate(deeds):
            if not trial._succeeds(deed):
                raise DeedRefused(index)
        self._state = trial._state
        self._to_undo, self._to_redo, self._state_of_mark = trial._to_undo, trial._to_redo, trial._state_of_mark
        return len(deeds)

    def twin(self):
        """An independent copy of the desk."""
        other = Desk(self._state[1], self.house, self._limit)
        other._state = self._state
        other._to_undo = list(self._to_undo)
        other._to_redo = list(self._to_redo)
        other._state_of_mark = dict(self._state_of_mark)
        return other

    def report(self):
        """The history as text, a line for each entry."""
        lines = [f"{index:>3} {place:>3} {first:>14} {second:>14} {helper:>14}"
                 for index, (place, first, second, helper) in enumerate(self._state[0])]
        return "\n".join(lines)
