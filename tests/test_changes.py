"""Kinds, helpers, free places, changes and walks [5], [7], [8], [9]."""

from itertools import permutations

from millbrook.changes import after, change_at, free_places, helpers, is_free, keystone, kinds_at
from millbrook.changes import nearest_helper, rows_along
from millbrook.errors import Barred, InvalidHouse, InvalidPlace, InvalidRow, InvalidWalk
from millbrook.houses import House
from millbrook.rows import flipped_row, mirrored_row, put_in, taken_out
from tests import plain
from tests.support import LONG_ROWS, MillTest

HOUSES = House.every()
SMALL = [row for n in range(2, 5) for row in permutations(range(n))]
SOME = SMALL + list(permutations((-2, 3, 5, 7, 11)))[::7] + list(permutations(range(6)))[::101]
PLACES = [(row, place) for row in SOME for place in range(len(row) - 1)]
LONG_PLACES = [(row, place) for row in LONG_ROWS for place in (0, 1, 19, 38)]


def plain_helpers(row, place, house):
    """The helpers by the words of [7]."""
    thirds = [index for index in range(len(row)) if index not in (place, place + 1)]
    kinds = plain.kinds_in(house.text)
    return [row[index] for index in thirds if plain.kind_of(row, place, index) in kinds]


class Kinds(MillTest):

    def test_kinds_at(self):
        for row, place in PLACES + LONG_PLACES:
            kinds = plain.kinds_of(row, place)
            self.check_kinds(kinds_at(list(row), place), [kind for kind in House.KINDS if kind in kinds])

    def test_all_kinds_at_once(self):
        self.assertEqual(kinds_at((1, 4, 7, 3, 6, 8, 5, 2), 3), list(House.KINDS))

    def test_example(self):
        self.assertEqual(kinds_at((2, 4, 1, 3), 1), ["b-", "-b"])

    def test_places_of_short_rows(self):
        for row in ((), [], (5,), [5]):
            for place in (-1, 0, 1):
                self.check_error(InvalidPlace(place), kinds_at, row, place)
            self.check_kinds(free_places(row, House("lbh-lbh")), [])
        self.check_kinds(kinds_at((1, 2), 0), [])
        self.check_kinds(free_places((1, 2), House("lbh-lbh")), [])
        self.check_error(InvalidPlace(1), kinds_at, (1, 2), 1)


class Helpers(MillTest):

    def test_helpers_of_every_house(self):
        for row, place in PLACES:
            for house in HOUSES:
                expected = plain_helpers(row, place, house)
                self.check_kinds(helpers(list(row), place, house), expected)
                self.assertIs(is_free(row, place, house), expected != [])
                self.check_kinds(keystone(row, place, house), expected[0] if len(expected) == 1 else None)
                self.check_kinds(nearest_helper(row, place, house), self.nearest(row, place, expected))

    def nearest(self, row, place, found):
        """The nearest of the helpers; of two the one before the place."""
        away = [(min(abs(row.index(stone) - place), abs(row.index(stone) - place - 1)), at, stone)
                for at, stone in enumerate(found)]
        return min(away)[2] if away else None

    def test_ties_go_to_the_stone_before(self):
        house = House("lbh-lbh")
        self.assertEqual(nearest_helper((1, 2, 3, 4), 1, house), 1)
        self.assertEqual(nearest_helper((4, 2, 3, 1), 1, house), 4)
        self.assertEqual(nearest_helper((9, 0, 2, 3, 8, 1), 2, House("h-h")), 8)
        self.assertEqual(nearest_helper((9, 0, 2, 3, 1, 8), 2, House("h-h")), 9)

    def test_helpers_of_long_rows(self):
        for row, place in LONG_PLACES:
            for house in HOUSES[::5]:
                expected = plain_helpers(row, place, house)
                self.check_kinds(helpers(row, place, house), expected)
                self.check_kinds(nearest_helper(row, place, house), self.nearest(row, place, expected))
                self.assertIs(is_free(row, place, house), expected != [])

    def test_keystones(self):
        for row, place in PLACES:
            for house in HOUSES[::4]:
                stone = keystone(row, place, house)
                if stone is not None:
                    gone = place - (row.index(stone) < place)
                    self.assertTrue(is_free(row, place, house))
                    self.assertFalse(is_free(taken_out(row, stone), gone, house))


class Places(MillTest):

    def test_free_places(self):
        for row in SOME + list(LONG_ROWS):
            for house in HOUSES[::1 if len(row) < 5 else 6]:
                places = range(len(row) - 1)
                expected = [place for place in places if plain.is_free(row, place, house.text)]
                self.check_kinds(free_places(list(row), house), expected)

    def test_mirrored_and_flipped_places(self):
        for row, place in PLACES:
            for house in HOUSES[::2]:
                free = is_free(row, place, house)
                mirrored = is_free(mirrored_row(row), len(row) - 2 - place, house.mirrored())
                self.assertIs(mirrored, free)
                self.assertIs(is_free(flipped_row(row), place, house.flipped()), free)

    def test_more_stones_never_bar_and_fewer_never_free(self):
        for row, place in PLACES[::3]:
            for house in HOUSES[::5]:
                free = is_free(row, place, house)
                for index in [index for index in range(len(row) + 1) if index != place + 1]:
                    more = put_in(row, 4, index) if 4 not in row else put_in(row, 99, index)
                    self.assertTrue(is_free(more, place + (index <= place), house) or not free)
                for index in [index for index in range(len(row)) if index not in (place, place + 1)]:
                    fewer = taken_out(row, row[index])
                    self.assertTrue(free or not is_free(fewer, place - (index < place), house))


class Changes(MillTest):

    def test_change_at(self):
        for row, place in PLACES:
            for house in HOUSES[::3]:
                if plain.is_free(row, place, house.text):
                    goal = change_at(list(row), place, house)
                    self.check_kinds(goal, plain.change(row, place))
                    self.check_kinds(change_at(goal, place, house), row)
                else:
                    self.check_error(Barred(place, 0), change_at, row, place, house)

    def test_barred_comes_behind_the_checks(self):
        self.check_error(Barred(0, 0), change_at, (1, 2), 0, House("l-h"))
        self.check_error(InvalidHouse(None), change_at, (1, 2), 0, None)
        self.check_error(InvalidHouse(None), after, (1, 2), [0], None)

    def test_walks(self):
        house = House("l-h")
        row = (1, 2, 3, 4)
        walk = [0, 1, 2, 2]
        expected = [row, (2, 1, 3, 4), (2, 3, 1, 4)]
        self.check_error(Barred(2, 2), after, row, walk, house)
        self.check_error(Barred(2, 2), after, list(row), tuple(walk), house)
        found = []
        rows = rows_along(row, walk, house)
        for _ in range(3):
            found.append(next(rows))
        self.check_kinds(found, expected)
        self.check_error(Barred(2, 2), next, rows)
        self.check_kinds(after(row, walk[:2], house), expected[2])
        self.check_kinds(list(rows_along(list(row), tuple(walk[:2]), house)), expected)

    def test_walks_of_every_house_against_single_changes(self):
        walk = (0, 2, 1, 0, 1, 2, 2, 1, 0, 0)
        for house in HOUSES:
            for row in ((2, 4, 1, 3), (1, 2, 3, 4), (4, 1, 3, 2)):
                rows = [row]
                for step, place in enumerate(walk):
                    if not plain.is_free(rows[-1], place, house.text):
                        self.check_error(Barred(place, step), after, row, walk, house)
                        break
                    rows.append(plain.change(rows[-1], place))
                done = list(walk[:len(rows) - 1])
                self.check_kinds(after(row, done, house), rows[-1])
                self.check_kinds(list(rows_along(row, done, house)), rows)

    def test_empty_walks(self):
        for row in ((), (5,), (1, 2), tuple(range(40))):
            for walk in ([], ()):
                self.check_kinds(after(list(row), walk, House("l-")), row)
                self.check_kinds(list(rows_along(list(row), walk, House("l-"))), [row])

    def test_walks_of_short_rows(self):
        for row in ((), (5,)):
            for walk in ([0], (0,), [-1]):
                self.check_error(InvalidWalk(walk), after, row, walk, House("l-"))

    def test_the_longest_walks(self):
        house = House("l-h")
        for row in ((1, 2, 3), tuple(range(40))):
            place = len(row) - 2
            for walk in ([place] * 20000, (place,) * 20000):
                self.check_kinds(after(row, walk, house), row)
            self.check_kinds(after(row, [place] * 19999, house), plain.change(row, place))
            self.assertEqual(sum(1 for _ in rows_along(row, [place] * 20000, house)), 20001)
            for walk in ([place] * 20001, (place,) * 20001):
                self.check_error(InvalidWalk(walk), after, row, walk, house)
                self.check_error(InvalidWalk(walk), rows_along, row, walk, house)
            late = [place] * 19999 + [0]
            if len(row) == 3:
                self.check_error(Barred(0, 19999), after, row, late, house)

    def test_errors_of_the_generator_come_with_the_first_row(self):
        for values, error in (
                ((None, [], House("l-")), InvalidRow(None)),
                (((1, 2), [1], House("l-")), InvalidWalk([1])),
                (((1, 2), [0], "l-"), InvalidHouse("l-"))):
            rows = rows_along(*values)
            self.check_error(error, next, rows)

    def test_the_generator_gives_the_row_before_it_finds_a_barred_place(self):
        rows = rows_along((1, 2), [0], House("l-"))
        self.check_kinds(next(rows), (1, 2))
        self.check_error(Barred(0, 0), next, rows)
