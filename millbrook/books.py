"""Books: general sets of rules for rows of few stones [38] to [41]."""

from millbrook.errors import Barred, InvalidCouple, NoSaying, NoStone, Ring, SayingThere, WantTooSmall
from millbrook.orders import goal_order, least_walk
from millbrook.rows import check_alike, check_place, check_row, check_stones, swapped
from millbrook.values import check_number, is_integer

MOST_BOOK_STONES = 10
MOST_WANT = 100


def first_difference(one, other):
    """The first index at which two tuples of one length differ, or None."""
    found = [index for index, (left, right) in enumerate(zip(one, other)) if left != right]
    return found[0] if len(found) > 0 else None


def _couple(first, second):
    """The two stones as a couple, the lighter one first."""
    return min(first, second), max(first, second)


class Book:
    """A book of rules for these stones; it begins empty."""

    def __init__(self, stones):
        check_row(stones)
        check_stones(stones, MOST_BOOK_STONES)
        self.stones = tuple(sorted(stones))
        # The want of each saying, in the order told.
        self._wants = {}
        # For each saying the sayings that are stronger, those over chains among them.
        self._stronger = {}
        self._banned = {}

    def _check_stone(self, weight):
        """Raises NoStone unless this is a stone of the book."""
        if not is_integer(weight) or weight not in self.stones:
            raise NoStone(weight)

    def _check_saying(self, saying):
        """Raises NoSaying unless this is a saying of the book."""
        if saying not in self:
            raise NoSaying(saying)

    def check_held(self, row):
        """Raises UnlikeStones unless the row, which has been checked, holds the stones of the book."""
        check_alike(self.stones, row)

    def _check_pair(self, first, second):
        """Checks two rows, which must hold the stones of the book."""
        check_row(first)
        check_row(second)
        check_alike(first, second)
        self.check_held(first)

    def say(self, first, second, want=1):
        """Adds the saying that the first stone stands before the second one."""
        self._check_stone(first)
        self._check_stone(second)
        check_number(want, 0, MOST_WANT)
        if first == second:
            raise InvalidCouple(first, second)
        if (first, second) in self._wants or (second, first) in self._wants:
            raise SayingThere(first, second)
        self._wants[first, second] = want
        self._stronger[first, second] = {}

    def strengthen(self, stronger, weaker):
        """Tells that the one saying is stronger than the other one."""
        self._check_saying(stronger)
        self._check_saying(weaker)
        if stronger == weaker or weaker in self._stronger[stronger]:
            raise Ring(stronger, weaker)
        if self._wants[stronger] < self._wants[weaker]:
            raise WantTooSmall(stronger, weaker)
        above = [stronger, *self._stronger[stronger]]
        below = [weaker] + [saying for saying in self._wants if weaker in self._stronger[saying]]
        for saying in below:
            for other in above:
                self._stronger[saying][other] = True

    def ban(self, first, second):
        """Bans the couple of the two stones."""
        self._check_stone(first)
        self._check_stone(second)
        if first == second:
            raise InvalidCouple(first, second)
        self._banned[_couple(first, second)] = True

    def sayings(self):
        """The sayings in the order told, each with its want."""
        return [(first, second, self._wants[first, second]) for first, second in self._wants]

    def bans(self):
        """The banned couples in ascending order."""
        return sorted(self._banned)

    def is_stronger(self, one, other):
        """Tells whether the one saying is stronger than the other one."""
        self._check_saying(one)
        self._check_saying(other)
        return one in self._stronger[other]

    def _true_ones(self, row):
        """The true sayings of the row in the order told, as a dict that tells quickly which are in it."""
        index_of = {stone: index for index, stone in enumerate(row)}
        return {(first, second): True for first, second in self._wants if index_of[first] < index_of[second]}

    def _stronger_among(self, true, saying):
        """The number of the sayings that are stronger and true."""
        return len([other for other in self._stronger[saying] if other in true])

    def true_sayings(self, row):
        """The true sayings of the row in the order told."""
        check_row(row)
        self.check_held(row)
        return list(self._true_ones(row))

    def strongest(self, row):
        """The strongest true sayings of the row in the order told."""
        check_row(row)
        self.check_held(row)
        true = self._true_ones(row)
        return [saying for saying in true if self._stronger_among(true, saying) == 0]

    def lets(self, row, place):
        """Tells whether the place is allowed, without checking the arguments."""
        first, second = row[place], row[place + 1]
        if _couple(first, second) in self._banned:
            return False
        true = self._true_ones(row)
        told = [saying for saying in ((first, second), (second, first)) if saying in self._wants]
        return all([self._stronger_among(true, saying) >= self._wants[saying] for saying in told])

    def allows(self, row, place):
        """Tells whether the place is allowed under the book."""
        check_row(row)
        check_place(row, place)
        self.check_held(row)
        return self.lets(row, place)

    def allowed(self, row):
        """The allowed places of the row in ascending order."""
        check_row(row)
        self.check_held(row)
        return [place for place in range(len(row) - 1) if self.lets(row, place)]

    def changed(self, row, place):
        """The row after the change at the place."""
        if not self.allows(row, place):
            raise Barred(place, 0)
        return swapped(tuple(row), place)

    def seal_of_held(self, row):
        """The book seal of the row, without checking the row."""
        true = self._true_ones(row)
        counts = []
        for saying in self._wants:
            found = [other for other in (saying, *self._stronger[saying]) if other in true]
            counts.append(min(len(found), self._wants[saying]))
        orders = [[stone for stone in row if stone in couple][0] for couple in self.bans()]
        return tuple(counts), tuple(orders)

    def book_seal(self, row):
        """The book seal of the row."""
        check_row(row)
        self.check_held(row)
        return self.seal_of_held(row)

    def joins(self, first, second):
        """Tells whether the two rows have the same book seal."""
        self._check_pair(first, second)
        return self.seal_of_held(first) == self.seal_of_held(second)

    def road(self, first, second):
        """The least walk from the first row to the second one that is first in dictionary order, or None."""
        if not self.joins(first, second):
            return None
        return least_walk(goal_order(first, second))

    def parting(self, first, second):
        """The first saying or else the first ban in which the book seals differ, or None."""
        self._check_pair(first, second)
        counts, orders = self.seal_of_held(first)
        other_counts, other_orders = self.seal_of_held(second)
        if counts != other_counts:
            return "saying", first_difference(counts, other_counts)
        if orders != other_orders:
            return "ban", first_difference(orders, other_orders)
        return None

    def twin(self):
        """An independent copy of the book."""
        other = Book(self.stones)
        other._wants = {saying: self._wants[saying] for saying in self._wants}
        other._stronger = {saying: {above: True for above in self._stronger[saying]} for saying in self._wants}
        other._banned = {couple: True for couple in self._banned}
        return other

    def __len__(self):
        return len(self._wants)

    def __contains__(self, pair):
        if not isinstance(pair, tuple) or len(pair) != 2:
            return False
        return all([is_integer(stone) for stone in pair]) and pair in self._wants
