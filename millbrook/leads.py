"""Ways to one row of a class under the houses of the grade none [33].

Rows are carried rows of three or more stones, and houses are first houses of their sorts. Two rows of one class
are led to the same row, so the way to it and the other way back join them.
"""

from millbrook.changes import frees
from millbrook.contents import content_of
from millbrook.orders import goal_order, least_walk
from millbrook.trees import small_and_big_chain


class Led:
    """A row that is being led somewhere, and the places of the changes that have led it so far."""

    def __init__(self, row, house):
        self.order = list(row)
        self.places = []
        self._house = house

    def swap(self, place):
        """Makes the change at the place."""
        self.order[place], self.order[place + 1] = self.order[place + 1], self.order[place]
        self.places.append(place)

    def is_free(self, place):
        """Tells whether the place is free."""
        return frees(self.order, place, self._house)

    def index_of(self, stone):
        """The index of the stone."""
        return self.order.index(stone)

    def move(self, stone, goal):
        """Moves the stone past its neighbours to the index of the goal."""
        while self.index_of(stone) > goal:
            self.swap(self.index_of(stone) - 1)
        while self.index_of(stone) < goal:
            self.swap(self.index_of(stone))

    def move_freely(self, stone):
        """Moves the stone to the left as far as it goes."""
        while self.index_of(stone) > 0 and self.is_free(self.index_of(stone) - 1):
            self.swap(self.index_of(stone) - 1)

    def arrange(self, goal):
        """Exchanges turned neighbours until the row is the goal."""
        walk = least_walk(goal_order(self.order, goal))
        for place in walk:
            self.swap(place)


def _lead_small_and_big(led):
    """Sort 7: puts the last small stone at the end, then the big ones that are no entries before it."""
    chain = small_and_big_chain(tuple(led.order))
    others = [stone for stone in sorted(led.order) if stone not in chain]
    led.move(chain[-1], len(led.order) - 1)
    led.arrange(chain[:-1] + others + chain[-1:])


def _heaviest_to(led, front):
    """Sorts 12 and 18: moves the heaviest stone to the left, to the index of the front."""
    heaviest = max(led.order)
    while led.index_of(heaviest) > front:
        index = led.index_of(heaviest)
        if led.is_free(index - 1):
            led.swap(index - 1)
        else:
            ahead = led.order[:index]
            passed = [stone for at, stone in enumerate(ahead) if stone < max(ahead[:at + 1])]
            led.move(passed[-1], index)
    rest = led.order[front + 1:]
    led.arrange(led.order[:front + 1] + sorted(rest))


def _lead_ascending_front(led):
    """Sort 12: leaves the ascending front out."""
    _heaviest_to(led, content_of(12, tuple(led.order))[0])


def _lead_not_ascending(led):
    """Sort 18: all stones may move."""
    _heaviest_to(led, 0)


def _lead_descending_lightest(led):
    """Sort 13: puts the first of the descending lightest stones at the front."""
    stones = sorted(led.order)
    many = content_of(13, tuple(led.order))[0]
    led.move(stones[many - 1], 0)
    led.arrange(stones[:many][::-1] + stones[many:])


def _is_outermost_in_front(led, stones):
    """Tells whether the lightest or the heaviest of these ascending stones is at the front."""
    return led.order[0] == stones[0] or led.order[0] == stones[-1]


def _move_outermost(led, stones):
    """Moves the lightest and the heaviest of these ascending stones to the left in turn, until one is at the front."""
    for stone in (stones[0], stones[-1], stones[0]):
        if not _is_outermost_in_front(led, stones):
            led.move_freely(stone)


def _lead_outermost(led, stones):
    """Sort 14: leads the lightest or the heaviest of these ascending stones to the front.

    They stand before all other stones of the row, and not as a spiral.
    """
    _move_outermost(led, stones)
    if _is_outermost_in_front(led, stones):
        return
    # Both stand behind the inner stones, of which the last one bars them.
    inner = stones[1:-1]
    _lead_outermost(led, inner)
    last = len(inner) - 1
    bars = inner[0] if led.order[last + 1] == stones[-1] else inner[-1]
    if led.order[last] == bars:
        led.swap(last - 1)
    _move_outermost(led, stones)


def _lead_no_spiral(led):
    """Sort 14: with the lightest stone at the front all other places are free."""
    stones = sorted(led.order)
    _lead_outermost(led, stones)
    led.move(stones[0], 0)
    led.arrange(stones)


def _lead_past_front(led):
    """Sort 19: only the front place can be barred, by stones of neighbouring ranks."""
    stones = sorted(led.order)
    if led.order[0] == stones[1] and len(stones) > 3:
        led.move(stones[3], 0)
    if led.order[0] != stones[1]:
        led.move(stones[0], 0)
    led.arrange(led.order[:1] + sorted(led.order[1:]))


def _lead_lightest(led):
    """Sort 20: only places of the lightest stone can be barred."""
    stones = sorted(led.order)
    while led.index_of(stones[0]) > 0:
        index = led.index_of(stones[0])
        if led.is_free(index - 1):
            led.swap(index - 1)
        elif index > 1:
            led.swap(index - 2)
        elif led.is_free(1):
            # The second lightest stone is at the front: another one takes its place.
            led.swap(1)
            led.swap(0)
        else:
            led.swap(2)
    led.arrange(stones)


def _lead_heaviest(led):
    """Sorts 21 and 22: only the last place can be barred, and only if the heaviest stone is there."""
    heaviest = max(led.order)
    last = len(led.order) - 2
    if not led.is_free(last):
        led.swap(last - 1)
    led.move(heaviest, 0)
    led.arrange([heaviest] + sorted(led.order[1:]))


# By the text of the first house of a sort, what leads all rows of a class to the same row.
_LEADS = {
    "b-l": _lead_small_and_big,
    "bh-l": _lead_ascending_front,
    "lb-b": _lead_descending_lightest,
    "lh-b": _lead_no_spiral,
    "bh-lb": _lead_not_ascending,
    "lbh-b": _lead_past_front,
    "lh-lb": _lead_lightest,
    "bh-lbh": _lead_heaviest,
    "lh-lbh": _lead_heaviest,
}


def places_to_goal(row, house):
    """The places of a walk from the row to a row that is the same for all rows of its class."""
    led = Led(row, house)
    lead = _LEADS[house.text]
    lead(led)
    return led.places
