"""Seals, rows that come of one another, and where two seals differ [25] to [27]."""

from itertools import permutations

from millbrook.changes import change_at, free_places
from millbrook.errors import InvalidRow
from millbrook.houses import House
from millbrook.seals import comes, seal, seal_parting
from millbrook.sorts import sort_of
from tests import reading, search
from tests.support import LONG_ROWS, TOP, MillTest, drawn_walk, shuffled

HOUSES = House.every()
FIRST_HOUSES = [House(text) for text, _, _, _ in reading.TABLE]
FAR_APART = (-TOP, -TOP + 1, -3, 0, TOP)
SHORT = ((), (7,), (7, 3), (3, 7))
MORE_ROWS = LONG_ROWS + (
    shuffled(FAR_APART, 2), shuffled(FAR_APART, 3), shuffled(range(12), 5), shuffled(range(13), 6),
    (4, 3, 5, 6, 2, 1), (3, 4, 2, 1, 5, 6), (1, 2, 3, 5, 4), (5, 4, 3, 1, 2), (3, 2, 1, 5, 4),
)


def spirals(stones):
    """The two spirals of these ascending stones, the one that turns to the lighter stone first."""
    middle = len(stones) // 2
    lighter = [middle - (at + 1) // 2 if at % 2 else middle + at // 2 for at in range(len(stones))]
    lighter = tuple(stones[index] for index in lighter)
    return lighter, reading.carried(lighter, "flipped")


def plain_parting(first, second, text):
    """The parting by the words of [27]."""
    one, other = reading.seal(first, text)[1], reading.seal(second, text)[1]
    for index in range(max(len(one), len(other))):
        left = one[index] if index < len(one) else "end"
        right = other[index] if index < len(other) else "end"
        if left != right:
            return (index, left, right)
    return None


class Contents(MillTest):

    def test_every_house_on_small_rows(self):
        for house in HOUSES:
            for n in range(6):
                for row in search.rows(n):
                    self.check_kinds(seal(row, house), reading.seal(row, house.text))

    def test_every_first_house_on_rows_of_six_stones(self):
        for house in FIRST_HOUSES:
            for row in search.rows(6):
                self.check_kinds(seal(row, house), reading.seal(row, house.text))

    def test_every_house_on_other_rows(self):
        for house in HOUSES:
            for row in MORE_ROWS:
                self.check_kinds(seal(list(row), house), reading.seal(row, house.text))

    def test_far_apart_weights(self):
        for house in HOUSES:
            for row in list(permutations(FAR_APART))[::5]:
                self.check_kinds(seal(row, house), reading.seal(row, house.text))

    def test_rows_of_fewer_than_three_stones(self):
        for house in HOUSES:
            for row in SHORT:
                self.check_kinds(seal(row, house), (0, row))
                self.check_kinds(seal(list(row), house), (0, row))

    def test_rows_of_all_lengths_ascending_and_descending(self):
        for house in HOUSES:
            for stones in (3, 4, 7, 20, 40):
                for row in (list(range(stones)), list(range(stones))[::-1]):
                    self.check_kinds(seal(row, house), reading.seal(tuple(row), house.text))
                    self.check_kinds(seal(tuple(row), house), reading.seal(tuple(row), house.text))
            for row in (list(range(41)), tuple(range(41))):
                self.check_error(InvalidRow(row), seal, row, house)

    def test_the_number_is_that_of_the_sort(self):
        for house in HOUSES:
            for row in ((1, 3, 2), (4, 1, 3, 2)):
                self.assertEqual(seal(row, house)[0], sort_of(house)[0])

    def test_examples_of_the_document(self):
        for row, text, expected in (
                ((3, 1, 4, 2), "l-", (1, ((3,), (1, 2, 4)))), ((3, 1, 4, 2), "lh-", (4, (3, 1, 4))),
                ((3, 1, 4, 2), "b-", (2, (None, 1, None, 3))), ((3, 1, 4, 2), "-h", (1, ((3,), (1, 2, 4)))),
                ((30, 10, 20), "b-l", (7, (30, 30))), ((30, 10, 20), "b-b", (8, (20,))),
                ((30, 10, 20), "l-h", (3, ((10, 20),))), ((10, 20, 30), "bh-l", (12, (3,))),
                ((10, 20, 30), "lb-b", (13, (1,)))):
            self.check_kinds(seal(row, House(text)), expected)

    def test_rows_under_each_sort(self):
        row = (4, 2, 6, 1, 5, 3)
        expected = (
            ((4,), (2, 6), (1, 3, 5)), (None, None, 2, None, 4, 4), ((1, 5), (2, 6)), (4, 2, 6, 1), (4, 2, 1), (2, 4, 6),
            (2,), (1, 3, 5), (4,), (2,), (6,), (0,), (2,), ("none",), ("no",), ("no",), ("no",), ("no",),
            ("no",), ("no",), (), (), ())
        for sort, (house, content) in enumerate(zip(FIRST_HOUSES, expected), 1):
            self.check_kinds(seal(row, house), (sort, content))

    def test_turning_points(self):
        for row, content in (
                ((1, 2, 3), (1, 3)), ((3, 2, 1), (3, 1)), ((2, 1, 3), (2, 1, 3)), ((2, 3, 1), (2, 3, 1)),
                ((3, 4, 2, 1, 5, 6), (3, 4, 1, 6)), ((3, 2, 1, 4, 0, 9, 10), (3, 1, 4, 0, 10)), ((2, 3, 4, 1), (2, 4, 1)),
                ((5, 6, 7, 1, 3), (5, 7, 1)), ((5, 6, 3, 7), (5, 6, 3, 7))):
            self.check_kinds(seal(row, House("lh-")), (4, content))

    def test_contents_that_end_early(self):
        for row, content in (
                ((1, 2, 3, 4), (None, None, None, None)), ((2, 1, 3, 4), (2,)), ((1, 3, 2, 4), (None, 3)),
                ((1, 2, 4, 3), (None, None, 4)), ((4, 1, 2, 3), (4, 4, 4)), ((3, 1, 2, 4), (3, 3)),
                ((4, 3, 1, 2), (3, 3)), ((4, 3, 2, 1), (2,)), ((3, 4, 1, 2), (3, 3))):
            self.check_kinds(seal(row, House("b-l")), (7, content))

    def test_spirals_of_both_sides(self):
        for stones in ((1, 2, 3), (10, 20, 30, 40), FAR_APART, tuple(range(7))):
            sides = dict(zip(spirals(stones), ("lighter", "heavier")))
            for row in permutations(stones):
                self.check_kinds(seal(row, House("lh-b")), (14, (sides.get(row, "none"),)))
                self.check_kinds(seal(row[::-1], House("b-lh")), (14, (sides.get(row, "none"),)))

    def test_long_spirals(self):
        for stones in (range(39), range(40), [-TOP + at * at for at in range(40)]):
            for row, side in zip(spirals(stones), ("lighter", "heavier")):
                self.check_kinds(seal(list(row), House("lh-b")), (14, (side,)))
                self.check_kinds(seal(row[::-1], House("b-lh")), (14, (side,)))
                for at in (0, 1, 20, len(row) - 2):
                    other = (*row[:at], row[at + 1], row[at], *row[at + 2:])
                    self.check_kinds(seal(other, House("lh-b")), (14, ("none",)))

    def test_three_stones_under_the_sorts_19_and_20(self):
        yes_rows = {"lbh-b": ((2, 1, 3), (2, 3, 1)), "b-lbh": ((1, 3, 2), (3, 1, 2)), "lh-lb": ((2, 1, 3),),
                    "lb-lh": ((3, 1, 2),), "lh-bh": ((2, 3, 1),), "bh-lh": ((1, 3, 2),)}
        for text, rows in yes_rows.items():
            for row in permutations((1, 2, 3)):
                entry = "yes" if row in rows else "no"
                self.check_kinds(seal(row, House(text)), (sort_of(House(text))[0], (entry,)))
            for row in ((2, 1, 3, 4), (2, 3, 1, 4), (3, 2, 4, 1)):
                self.check_kinds(seal(row, House(text))[1], ("no",))


class ComesOf(MillTest):

    def test_classes_of_small_rows(self):
        for house in HOUSES:
            for n in range(7):
                classes = search.classes(n, house.number)
                seals = [seal(rows[0], house) for rows in classes]
                self.assertEqual(len(set(seals)), len(classes), (house, n))
                for rows, expected in zip(classes, seals):
                    for row in rows:
                        self.assertEqual(seal(row, house), expected)

    def test_every_pair_of_small_rows(self):
        for house in HOUSES:
            for n in range(5):
                class_of = {row: at for at, rows in enumerate(search.classes(n, house.number)) for row in rows}
                for first in search.rows(n):
                    for second in search.rows(n):
                        expected = class_of[first] == class_of[second]
                        self.assertIs(comes(first, list(second), house), expected)

    def test_seals_stay_behind_each_change_of_long_rows(self):
        for house in HOUSES:
            for row in LONG_ROWS[:4]:
                kept = seal(row, house)
                for place in free_places(row, house)[::8]:
                    self.assertEqual(seal(change_at(row, place, house), house), kept)
                goal, _ = drawn_walk(row, house, 25, house.number)
                self.assertEqual(seal(goal, house), kept)
                self.assertIs(comes(row, goal, house), True)
                self.assertIsNone(seal_parting(row, goal, house))

    def test_rows_of_every_length(self):
        for house in HOUSES:
            for stones in (0, 1, 2, 3, 40):
                row = tuple(range(stones))
                self.assertIs(comes(list(row), row, house), True)
                goal = row[::-1]
                self.assertIs(comes(row, list(goal), house), reading.seal(row, house.text) == reading.seal(goal, house.text))
            self.assertIs(comes((1, 2), (2, 1), house), False)
            for row in (list(range(41)), tuple(range(41))):
                self.check_error(InvalidRow(row), comes, row, (1,), house)
                self.check_error(InvalidRow(row), comes, (1,), row, house)
                self.check_error(InvalidRow(row), seal_parting, row, (1,), house)
                self.check_error(InvalidRow(row), seal_parting, (1,), row, house)


class Partings(MillTest):

    def test_example(self):
        self.check_kinds(seal_parting((3, 2, 1), (3, 1, 2), House("lb-")), (1, 2, 1))

    def test_every_pair_of_small_rows(self):
        for house in HOUSES:
            for n in range(5):
                for first in search.rows(n)[::1 if n < 4 else 2]:
                    for second in search.rows(n):
                        expected = plain_parting(first, second, house.text)
                        self.check_kinds(seal_parting(list(first), second, house), expected)

    def test_other_rows(self):
        for house in HOUSES:
            for first in MORE_ROWS:
                for second in (first, first[::-1], (*first[1:], first[0]), tuple(sorted(first))):
                    self.check_kinds(seal_parting(first, list(second), house), plain_parting(first, second, house.text))

    def test_contents_of_unlike_lengths(self):
        for first, second, text, expected in (
                ((2, 1, 3, 4), (2, 3, 1, 4), "l-", (0, (2,), (2, 3))),
                ((2, 1, 3), (1, 2, 3), "lb-", (0, 2, 1)), ((3, 2, 1), (3, 1, 2), "lb-", (1, 2, 1)),
                ((3, 1, 2), (3, 2, 1), "l-l", (0, 3, 2)), ((1, 2, 3), (3, 1, 2), "l-l", (0, "end", 3)),
                ((2, 1, 3), (2, 3, 1), "l-l", (1, "end", 3)), ((1, 2, 3), (2, 1, 3), "b-b", (0, "end", 1)),
                ((2, 1, 3), (1, 2, 3), "b-b", (0, 1, "end")), ((2, 1, 4, 3), (2, 1, 3, 4), "b-b", (1, 3, "end")),
                ((3, 2, 1), (1, 2, 3), "l-h", (0, "end", (1, 3))), ((2, 1, 3, 4), (4, 1, 2, 3), "b-l", (0, 2, 4)),
                ((1, 2, 3, 4), (1, 2, 4, 3), "b-l", (2, None, 4)), ((3, 4, 1, 2), (3, 1, 4, 2), "lh-", (1, 4, 1)),
                ((3, 1, 4, 2), (3, 1, 2, 4), "lh-", None), ((3, 4, 2, 1), (3, 4, 2, 1), "lh-", None),
                ((1, 2, 3), (2, 3, 1), "lh-", (0, 1, 2)), ((2, 1, 3), (2, 3, 1), "lh-", (1, 1, 3)),
                ((2, 1), (1, 2), "lbh-lbh", (0, 2, 1)), ((1, 2), (2, 1), "l-", (0, 1, 2))):
            self.check_kinds(seal_parting(first, second, House(text)), expected)

    def test_a_content_that_is_the_beginning_of_the_other_one(self):
        found = 0
        for house in HOUSES:
            for first in search.rows(5)[::3]:
                for second in search.rows(5)[::4]:
                    told = seal_parting(first, second, house)
                    self.check_kinds(told, plain_parting(first, second, house.text))
                    found += told is not None and "end" in told
        self.assertGreater(found, 1000)
