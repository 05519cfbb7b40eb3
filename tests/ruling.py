"""Books word by word, and a search by the changes that any set of rules allows, on rows of few stones.

A told book is a dict: `sayings` are triples in the order told, `told` the pairs of sayings of which the first is
stronger, `bans` the banned couples. `steps` is a dict: for each row the pairs of an allowed place and the row after.
"""

from itertools import combinations, permutations, product

from millbrook.books import Book
from millbrook.errors import Ring, WantTooSmall
from tests import plain
from tests.support import MillTest


def empty():
    """A told book without any rules."""
    return {"sayings": [], "told": [], "bans": []}


def stronger_pairs(told):
    """All pairs of sayings of which the first is stronger, chains included [38]."""
    found = set(told["told"])
    while True:
        more = {(one, last) for one, middle in found for other, last in found if middle == other} - found
        if not more:
            return found
        found |= more


def is_true(row, saying):
    """Tells whether a saying is true in a row [38]."""
    return row.index(saying[0]) < row.index(saying[1])


def allows(told, stronger, row, place):
    """Tells whether a place is allowed under a told book [39]."""
    if plain.couple_at(row, place) in told["bans"]:
        return False
    for first, second, want in told["sayings"]:
        if {first, second} == set(row[place:place + 2]):
            above = [one for one, other in stronger if other == (first, second)]
            return sum(is_true(row, saying) for saying in above) >= want
    return True


def book_seal(told, stronger, row):
    """The book seal of a row under a told book [40]."""
    counts = []
    for first, second, want in told["sayings"]:
        held = [one for one, other in stronger if other == (first, second)] + [(first, second)]
        counts.append(min(want, sum(is_true(row, saying) for saying in held)))
    orders = [next(stone for stone in row if stone in couple) for couple in sorted(told["bans"])]
    return tuple(counts), tuple(orders)


def steps_under(stones, free):
    """For each row of the stones the pairs of an allowed place and the row after; `free` tells what is allowed."""
    return {row: [(place, plain.change(row, place)) for place in range(len(row) - 1) if free(row, place)]
            for row in permutations(sorted(stones))}


def away_from(goal, steps):
    """For each row of the goal's class its distance to the goal, the nearer ones first."""
    found = {goal: 0}
    queue = [goal]
    for present in queue:
        for _, other in steps[present]:
            if other not in found:
                found[other] = found[present] + 1
                queue.append(other)
    return found


def least_walks(goal, steps):
    """For each row of the goal's class the least walk to the goal that is first in dictionary order."""
    away = away_from(goal, steps)
    walks = {goal: []}
    for row in list(away)[1:]:
        place, other = next(step for step in steps[row] if away[step[1]] < away[row])
        walks[row] = [place] + walks[other]
    return walks


def classes(steps):
    """The classes of the rows, each a list in dictionary order, in the order of their first rows."""
    found, seen = [], set()
    for row in steps:
        if row not in seen:
            found.append(sorted(away_from(row, steps)))
            seen.update(found[-1])
    return found


def grouped(rows, key):
    """The rows in groups of the same key, each in the order of the rows, in the order of their first rows."""
    found = {}
    for row in rows:
        found.setdefault(key(row), []).append(row)
    return list(found.values())


def drawn(stones, source, most_want=3):
    """A drawn book for the stones and the same as a told book."""
    book, told = Book(stones), empty()
    for couple in combinations(sorted(stones), 2):
        if source.random() < 0.7:
            first, second = source.sample(couple, 2)
            told["sayings"].append((first, second, source.randint(0, most_want)))
        if source.random() < 0.15:
            told["bans"].append(couple)
    source.shuffle(told["sayings"])
    for saying in told["sayings"]:
        book.say(*saying)
    for couple in told["bans"]:
        book.ban(*source.sample(couple, 2))
    pairs = list(product(told["sayings"], repeat=2))
    for stronger, weaker in source.sample(pairs, min(len(pairs), 2 * len(stones))):
        try:
            book.strengthen(stronger[:2], weaker[:2])
        except (Ring, WantTooSmall):
            continue
        told["told"].append((stronger[:2], weaker[:2]))
    return book, told


# For each house of the list: how its sayings are told of x < y, and when the saying s is stronger than that of x < y.
_LISTED = {
    "l-": (lambda x, y: (x, y), lambda s, x, y: s[1] == y and s[0] < x),
    "-h": (lambda x, y: (x, y), lambda s, x, y: s[0] == x and s[1] > y),
    "l-h": (lambda x, y: (x, y), lambda s, x, y: s[0] <= x and s[1] >= y and s != (x, y)),
    "b-": (lambda x, y: (x, y), lambda s, x, y: s[1] == y and x < s[0] < y),
    "-b": (lambda x, y: (x, y), lambda s, x, y: s[0] == x and x < s[1] < y),
    "h-": (lambda x, y: (y, x), lambda s, x, y: s[1] == x and s[0] > y),
    "-l": (lambda x, y: (y, x), lambda s, x, y: s[0] == y and s[1] < x),
    "h-l": (lambda x, y: (y, x), lambda s, x, y: s[1] <= x and s[0] >= y and s != (y, x)),
}
# For each house of the list that bans: whether it bans the couple of the ranks x < y of n stones.
_BANNED = {
    "l-l": lambda x, y, n: x == 1,
    "h-h": lambda x, y, n: y == n,
    "b-b": lambda x, y, n: y - x == 1,
    "lb-lb": lambda x, y, n: (x, y) == (1, 2),
    "bh-bh": lambda x, y, n: (x, y) == (n - 1, n),
    "lh-lh": lambda x, y, n: (x, y) == (1, n),
    "lbh-lbh": lambda x, y, n: n == 2,
}
HOUSES_OF_SAYINGS = tuple(_LISTED)
HOUSES_OF_BOOKS = tuple(_LISTED) + tuple(_BANNED)


def of_house(text, stones, want=1):
    """The told book of a house for the stones, read from the list [42]."""
    told = empty()
    ascending = sorted(stones)
    couples = list(combinations(ascending, 2))
    if text in _LISTED:
        saying_of, is_stronger = _LISTED[text]
        told["sayings"] = [(*saying_of(x, y), want) for x, y in couples]
        told["told"] = [(saying[:2], saying_of(x, y)) for saying in told["sayings"] for x, y in couples
                        if is_stronger(saying[:2], x, y)]
    else:
        rank = {stone: at for at, stone in enumerate(ascending, 1)}
        told["bans"] = [(x, y) for x, y in couples if _BANNED[text](rank[x], rank[y], len(ascending))]
    return told


def steps_of_book(stones, told):
    """The allowed changes of all rows of the stones under a told book."""
    stronger = stronger_pairs(told)
    return steps_under(stones, lambda row, place: allows(told, stronger, row, place))


class BookTest(MillTest):
    """A test case that can compare books with a plain search by allowed changes."""

    def check_book(self, book, told, goals):
        """The book allows what the told one allows; seals, roads and partings agree with the search."""
        stronger = stronger_pairs(told)
        steps = steps_of_book(book.stones, told)
        for row in steps:
            self.assertEqual(book.allowed(row), [place for place, _ in steps[row]])
            self.check_kinds(book.book_seal(row), book_seal(told, stronger, row))
        self.assertEqual(classes(steps), grouped(list(steps), book.book_seal))
        for goal in list(steps)[::goals]:
            walks = least_walks(goal, steps)
            for row in steps:
                self.assertEqual(book.road(row, goal), walks.get(row))
                self.assertIs(book.joins(row, goal), row in walks)
                self.check_parting(book, row, goal)
                if row in walks:
                    self.assertEqual(len(walks[row]), len(plain.named_turned(row, goal)))

    def check_parting(self, book, first, second):
        """The parting is the first difference of the book seals."""
        one, other = book.book_seal(first), book.book_seal(second)
        for word, left, right in (("saying", one[0], other[0]), ("ban", one[1], other[1])):
            for index in range(len(left)):
                if left[index] != right[index]:
                    self.check_kinds(book.parting(first, second), (word, index))
                    return
        self.assertIs(book.parting(first, second), None)
