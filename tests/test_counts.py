"""The numbers of classes and the widths of rows [24], [28]."""

from math import comb, factorial

from millbrook import bound
from millbrook.counts import class_count, class_width
from millbrook.errors import InvalidHouse, InvalidNumber, InvalidRow, TooMany
from millbrook.houses import House
from millbrook.rows import flipped_row, mirrored_row
from millbrook.seals import seal
from millbrook.sorts import sort_of
from tests import reading, search
from tests.support import LONG_ROWS, TOP, MillTest, drawn_walk, shuffled

HOUSES = House.every()
FIRST_HOUSES = [House(text) for text, _, _, _ in reading.TABLE]
TREE_ROWS = LONG_ROWS + (
    shuffled(range(40), 3), shuffled(range(40), 11), shuffled(range(40), 19), (39, *range(39)), (*range(1, 40), 0),
    (20, *range(20), *range(21, 40)), (0, 39, *range(1, 39)), (*range(20, 40), *range(20)), (5, 3, 8, 1, 4, 7, 9, 2, 6),
)


def search_tree_width(row):
    """Sort 2, by cutting the row at the root of the tree."""
    if len(row) == 0:
        return 1
    lighter, heavier = [stone for stone in row if stone < row[0]], [stone for stone in row if stone > row[0]]
    return comb(len(row) - 1, len(lighter)) * search_tree_width(lighter) * search_tree_width(heavier)


def forest_width(parents, stones):
    """The number of orders of the stones in which each stands behind its parent, by mixing subtrees."""
    children = {stone: [other for other in stones if parents.get(other) == stone] for stone in [None, *stones]}

    def grown(stone):
        size, ways = 0, 1
        for child in children[stone]:
            more, orders = grown(child)
            size, ways = size + more, ways * orders * comb(size + more, more)
        return size + (stone is not None), ways
    return grown(None)[1]


def note_parents(row):
    """Sort 4, by the words of [28]."""
    notes = reading.sort_4(row)
    parents = dict(zip(notes[1:], notes))
    for stone in row:
        if stone not in notes:
            at = next(at for at in range(len(notes))
                      if any(note < stone for note in notes[:at + 1]) and any(note > stone for note in notes[:at + 1]))
            parents[stone] = notes[at - 1]
    return parents


def small_and_big_parents(row):
    """Sort 7, by the words of [29]."""
    stones, entries = sorted(row), reading.sort_7(row)
    small, big = stones[:len(entries)], stones[len(entries):]
    chain = []
    for stone, entry in zip(small, entries):
        chain += [entry] if entry is not None and entry not in chain else []
        chain.append(stone)
    parents = dict(zip(chain[1:], chain))
    for z in big:
        above = [stone for stone, entry in zip(small, entries) if entry is None or entry > z]
        if z not in entries and above:
            parents[z] = above[-1]
    return parents


def zigzags(n):
    """The number of rows of n stones that turn at each stone but the outermost, by their recursion."""
    found = [1, 1]
    while len(found) <= n:
        many = len(found) - 1
        found.append(sum(comb(many, k) * found[k] * found[many - k] for k in range(many + 1)) // 2)
    return found[n]


class ClassCounts(MillTest):

    def test_against_the_search(self):
        for house in HOUSES:
            for n in range(7):
                self.check_kinds(class_count(house, n), len(search.classes(n, house.number)))

    def test_against_the_table(self):
        for house in HOUSES:
            count = reading.TABLE[sort_of(house)[0] - 1][3]
            for n in range(3, 61):
                self.check_kinds(class_count(house, n), count(n))

    def test_few_stones(self):
        for house in HOUSES:
            self.check_kinds([class_count(house, n) for n in range(3)], [1, 1, 2])

    def test_three_stones(self):
        expected = [5, 5, 4, 4, 4, 4, 4, 4, 3, 3, 3, 3, 3, 3, 2, 2, 2, 2, 2, 2, 1, 1, 1]
        self.check_kinds([class_count(house, 3) for house in FIRST_HOUSES], expected)

    def test_bell_numbers(self):
        self.check_kinds([class_count(House("l-"), n) for n in (3, 4, 5, 6)], [5, 15, 52, 203])

    def test_sixty_stones(self):
        for house, number in ((House("b-"), factorial(120) // (factorial(60) * factorial(61))),
                              (House("lb-"), 2**59), (House("lbh-"), 60), (House("lh-b"), 3), (House("lbh-l"), 2),
                              (House("lh-lb"), 1), (House("lbh-lbh"), 1), (House("-h"), reading.bell(60))):
            self.check_kinds(class_count(house, 60), number)

    def test_numbers_out_of_range(self):
        for house in HOUSES[::7]:
            for bad in (-1, 61, True, False, 3.0, 0.0, None, "3", (3,), 10**5000):
                self.check_error(InvalidNumber(bad), class_count, house, bad)
                self.check_error(InvalidHouse(bad), class_count, bad, bad)


class Widths(MillTest):

    def test_against_the_search(self):
        for house in HOUSES:
            for n in range(7):
                for rows in search.classes(n, house.number):
                    for row in rows[::1 if n < 5 else len(rows) // 3 + 1]:
                        self.check_kinds(class_width(list(row), house), len(rows))

    def test_rows_of_seven_stones(self):
        for house in FIRST_HOUSES:
            found = {}
            for row in search.rows(7):
                found.setdefault(seal(row, house), []).append(row)
            for rows in found.values():
                self.check_kinds(class_width(rows[len(rows) // 2], house), len(rows))

    def test_example(self):
        self.check_kinds(class_width((3, 2, 1), House("b-l")), 3)

    def test_few_stones(self):
        for house in HOUSES:
            for row in ((), [], (5,), [TOP], (1, 2), [2, 1]):
                self.check_kinds(class_width(row, house), 1)

    def test_mirrored_and_flipped(self):
        for house in HOUSES:
            if sort_of(house)[0] != 3:
                for row in LONG_ROWS:
                    width = class_width(row, house)
                    self.check_kinds(class_width(mirrored_row(row), house.mirrored()), width)
                    self.check_kinds(class_width(flipped_row(row), house.flipped()), width)

    def test_rows_of_one_class_are_equally_wide(self):
        for house in HOUSES:
            if sort_of(house)[0] != 3:
                for row in LONG_ROWS[:3]:
                    self.check_kinds(class_width(drawn_walk(row, house, 15, 1)[0], house), class_width(row, house))

    def test_too_many_stones(self):
        for house in HOUSES:
            for row in (list(range(41)), tuple(range(41))):
                self.check_error(InvalidRow(row), class_width, row, house)


class Millbrook(MillTest):

    def test_ten_stones(self):
        for row in (tuple(range(10)), tuple(range(10))[::-1], shuffled(range(10), 3), shuffled(range(10), 7)):
            self.check_kinds(class_width(list(row), House("l-h")), bound.width(row))
            self.check_kinds(class_width(row, House("h-l")), bound.width(row[::-1]))
        self.check_kinds(class_width(range_row(10), House("l-h")), 1814400)
        self.check_kinds(class_width(range_row(10), House("h-l")), 1)

    def test_more_than_ten_stones(self):
        for stones in range(11, 41):
            for text in ("l-h", "h-l"):
                self.check_error(TooMany(10, stones), class_width, range_row(stones), House(text))
                self.check_error(TooMany(10, stones), class_width, list(range_row(stones)), House(text))
            for text in ("l-", "h-", "l-l", "lh-h"):
                self.assertGreater(class_width(range_row(stones), House(text)), 0)
        self.check_error(InvalidHouse(None), class_width, range_row(11), None)
        self.check_error(InvalidHouse("l-h"), class_width, range_row(11), "l-h")


def range_row(stones):
    """The row of the stones 0, 1, 2, .. in ascending order."""
    return tuple(range(stones))


class Trees(MillTest):

    def test_search_trees(self):
        for row in TREE_ROWS:
            self.check_kinds(class_width(row, House("b-")), search_tree_width(row))
            self.check_kinds(class_width(row, House("-b")), search_tree_width(row[::-1]))

    def test_notes(self):
        for row in TREE_ROWS:
            self.check_kinds(class_width(row, House("lh-")), forest_width(note_parents(row), row))

    def test_lightest_so_far(self):
        for row in TREE_ROWS:
            # The stones are put in from the lightest on; one that is not lighter than all before is never in front.
            many = 1
            for at, stone in enumerate(sorted(row)):
                many *= 1 if stone in reading.sort_5(row) else at
            self.check_kinds(class_width(row, House("lb-")), many)

    def test_small_and_big_stones(self):
        for row in TREE_ROWS:
            self.check_kinds(class_width(row, House("b-l")), forest_width(small_and_big_parents(row), row))

    def test_ascending_and_descending_rows(self):
        up, down = range_row(40), range_row(40)[::-1]
        every = factorial(40)
        for text, ascending, descending in (
                ("l-", factorial(39), 1), ("b-", 1, 1), ("lh-", every // 40, every // 40), ("lb-", factorial(39), 1),
                ("l-l", factorial(39), factorial(39)), ("b-l", 1, every // 2), ("b-b", 1, 1),
                ("lbh-", factorial(39), factorial(39)), ("lb-l", factorial(39), every // 2),
                ("lh-l", factorial(39), every // 2), ("bh-l", 1, every - factorial(39)), ("lb-b", every // 2, 1),
                ("lh-b", every - 2, every - 2), ("lbh-l", factorial(39), every - factorial(39)),
                ("lb-lb", every // 2, every // 2), ("lh-lh", every // 2, every // 2), ("bh-lb", 1, every - 1),
                ("lbh-b", every, every), ("lh-lb", every, every), ("bh-lbh", every, every), ("lh-lbh", every, every),
                ("lbh-lbh", every, every)):
            with self.subTest(text=text):
                self.check_kinds(class_width(up, House(text)), ascending)
                self.check_kinds(class_width(down, House(text)), descending)


class LongRows(MillTest):

    def check_sum(self, text, rows):
        """The classes of these rows of forty stones, one row of each class, have all rows together."""
        house = House(text)
        self.assertEqual(len({seal(row, house) for row in rows}), class_count(house, 40))
        self.assertEqual(sum(class_width(row, house) for row in rows), factorial(40))

    def test_one_row_of_each_class(self):
        up = range_row(40)
        rest = up[1:]
        self.check_sum("lbh-", [(stone, *[other for other in up if other != stone]) for stone in up])
        self.check_sum("lb-l", [up] + [(stone, 0, *[other for other in rest if other != stone]) for stone in rest])
        self.check_sum("lh-l", [up] + [(stone, 0, *[other for other in rest if other != stone]) for stone in rest])
        self.check_sum("bh-l", [up] + [(*up[:at], *up[at:][::-1]) for at in range(39)])
        self.check_sum("lb-b", [(*up[:at][::-1], *up[at:]) for at in range(1, 41)])
        middle = [20 - (at + 1) // 2 if at % 2 else 20 + at // 2 for at in range(40)]
        self.check_sum("lh-b", [up, tuple(middle), tuple(39 - stone for stone in middle)])
        for text in ("lbh-l", "lb-lb", "lh-lh", "bh-lb"):
            self.check_sum(text, [up, up[::-1]])
        for text in ("lbh-b", "lh-lb", "bh-lbh", "lh-lbh", "lbh-lbh"):
            self.check_sum(text, [up])

    def test_stones_around_the_lightest(self):
        up = range_row(40)
        widths = [class_width((*up[1:at + 1], 0, *up[at + 1:]), House("l-l")) for at in range(40)]
        self.assertEqual(sum(comb(39, at) * width for at, width in enumerate(widths)), factorial(40))
        self.assertEqual(widths[1], factorial(38))

    def test_blocks(self):
        self.check_kinds(class_width((*range(30, 40), *range(10, 30), *range(10)), House("l-")),
                         factorial(9) * factorial(19) * factorial(9))
        self.check_kinds(class_width((5, 9, 3, 4, 8, 7, 1, 2, 0, 6), House("l-")), 6)

    def test_turns(self):
        for at in (1, 2, 7, 20, 39):
            row = (*range(at, 40), *range(at))
            self.check_kinds(class_width(row, House("b-b")), comb(40, at) - 1)
        for stones in (3, 4, 5, 6, 39, 40):
            row = (*range(1, stones, 2), *range(0, stones, 2))
            self.check_kinds(class_width(row, House("b-b")), zigzags(stones))

    def test_heaviest_and_lightest_entries(self):
        row = (10, 20, 0, *[stone for stone in range(1, 40) if stone not in (10, 20)])
        self.check_kinds(class_width(row, House("lb-l")), factorial(40) // (11 * 10))
        self.check_kinds(class_width(row, House("lh-l")), factorial(40) // (21 * 20))

    def test_all_houses_give_an_answer(self):
        for house in HOUSES:
            for row in LONG_ROWS:
                if sort_of(house)[0] != 3:
                    self.assertTrue(1 <= class_width(row, house) <= factorial(40))
