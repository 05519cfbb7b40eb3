"""Stories: what may have happened to a row of few stones [53]."""

from millbrook.errors import InvalidNumber, NoStone, NothingToUndo
from millbrook.houses import check_house
from millbrook.plain import MOST_SEARCHED, changes_of
from millbrook.rows import check_place, check_row, check_stones
from millbrook.values import check_number, check_room, is_integer, is_number

_MOST_EVENTS = 40


class Story:
    """A story of the row under the house; it begins without events."""

    def __init__(self, row, house):
        check_row(row)
        check_stones(row, MOST_SEARCHED)
        check_house(house)
        self._house = house
        self._stones = tuple(row)
        self._events = []
        # For the beginning, and behind each event, each possible row with the number of ways that lead to it.
        self._layers = [{self._stones: 1}]
        # The changes of each row that was asked for; the search asks again and again.
        self._changes = {}

    def _changes_of(self, row):
        """The pairs of a free place and the row after its change."""
        if row not in self._changes:
            self._changes[row] = changes_of(row, self._house)
        return self._changes[row]

    def _changes_by(self, event, row):
        """The pairs of a place that the event may have changed in the row, and the row behind it."""
        if event[0] == "unseen":
            return self._changes_of(row)
        return [(place, other) for place, other in self._changes_of(row) if place == event[1]]

    def _rows_behind(self, event, row):
        """The rows to which the event may lead from the row, one for each choice of a place."""
        if event[0] == "glimpse":
            return [row] if row[event[1]] == event[2] else []
        if event[0] == "refused":
            return [row] if event[1] not in [place for place, _ in self._changes_of(row)] else []
        return [other for _, other in self._changes_by(event, row)]

    def _add(self, event):
        """Adds an event that has been checked."""
        check_room(len(self._events), _MOST_EVENTS)
        ways = self._layers[-1]
        layer = {}
        for row in ways:
            for other in self._rows_behind(event, row):
                layer[other] = layer.get(other, 0) + ways[row]
        self._events.append(event)
        self._layers.append(layer)

    def saw(self, place):
        """A change was seen at the place."""
        check_place(self._stones, place)
        self._add(("saw", place))

    def unseen(self):
        """There was exactly one change, at an unknown place."""
        self._add(("unseen",))

    def glimpse(self, index, weight):
        """The stone of this weight was seen at the index."""
        check_number(index, 0, len(self._stones) - 1)
        if not is_integer(weight) or weight not in self._stones:
            raise NoStone(weight)
        self._add(("glimpse", index, weight))

    def refused(self, place):
        """The place was barred."""
        check_place(self._stones, place)
        self._add(("refused", place))

    def withdraw(self):
        """Removes the last event."""
        if len(self._events) == 0:
            raise NothingToUndo()
        self._events.pop()
        self._layers.pop()

    def events(self):
        """The events in the order told."""
        return list(self._events)

    def possible(self):
        """The rows to which the ways lead, in dictionary order."""
        return sorted(self._layers[-1])

    def ways(self):
        """The number of ways."""
        return sum(self._layers[-1].values())

    def places_of(self, event):
        """The places that the ways choose for the unseen change with this event index."""
        if not is_number(event, 0, len(self._events) - 1) or self._events[event][0] != "unseen":
            raise InvalidNumber(event)
        behind = self._rows_that_lead_on(event + 1)
        changes = [pair for row in self._layers[event] for pair in self._changes_of(row)]
        return sorted({place for place, other in changes if other in behind})

    def _rows_that_lead_on(self, step):
        """The possible rows before the event with this index from which some way leads through all later events."""
        going = self._layers[-1]
        for index in range(len(self._events) - 1, step - 1, -1):
            event = self._events[index]
            held = [row for row in self._layers[index]
                    if any([other in going for other in self._rows_behind(event, row)])]
            going = {row: True for row in held}
        return going

    def broken_at(self):
        """The index of the first event behind which there is no way, or None."""
        broken = [index for index, layer in enumerate(self._layers[1:]) if len(layer) == 0]
        return broken[0] if len(broken) > 0 else None

    def surely(self, index):
        """The weight that stands at the index in every possible row, or None."""
        check_number(index, 0, len(self._stones) - 1)
        weights = [row[index] for row in self._layers[-1]]
        return weights[0] if len(set(weights)) == 1 else None
