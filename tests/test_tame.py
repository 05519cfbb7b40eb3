"""Bag rows, tame places and named stones [11], [12]."""

from itertools import product

from millbrook.changes import after, free_places
from millbrook.errors import Barred, InvalidPlace, InvalidRow, InvalidWalk
from millbrook.houses import House
from millbrook.tame import is_tame, named_stones, named_turned, tame_after, tame_change, tame_places
from tests import plain
from tests.support import LONG_BAG_ROWS, LONG_ROWS, TOP, MillTest

SMALL = [row for n in range(5) for row in product(range(1, n + 1), repeat=n)]
SMALL += [row for row in product((-5, 0, 7), repeat=5)]


class BagRows(MillTest):

    def test_bag_rows_of_all_lengths(self):
        for stones in range(41):
            for row in ((7,) * stones, tuple(range(stones)), tuple(at // 2 for at in range(stones))):
                self.check_kinds(named_stones(list(row)), plain.named(row))
                self.check_kinds(named_stones(row), plain.named(row))
        for row in ([7] * 41, (7,) * 41, list(range(41)), tuple(range(41))):
            self.check_error(InvalidRow(row), named_stones, row)

    def test_true_false_and_floats(self):
        for row in ((True,), [False, 0], (1, 1.0), [1, True], (0, False), (2.0, 2.0)):
            self.check_error(InvalidRow(row), tame_places, row)

    def test_greatest_weights(self):
        row = (TOP, -TOP, TOP, -TOP)
        self.check_kinds(tame_places(row), [place for place in range(3) if plain.is_tame(row, place)])
        for weight in (TOP + 1, -TOP - 1):
            self.check_error(InvalidRow([weight, weight]), tame_places, [weight, weight])


class Places(MillTest):

    def test_tame_places(self):
        for row in SMALL + list(LONG_BAG_ROWS):
            places = [place for place in range(len(row) - 1) if plain.is_tame(row, place)]
            self.check_kinds(tame_places(list(row)), places)
            for place in range(len(row) - 1):
                self.assertIs(is_tame(row, place), place in places)

    def test_neighbours_of_equal_weight_are_never_tame(self):
        for row in ((2, 2), (1, 2, 2, 3), (2, 2, 2, 2), (5,) * 40):
            for place in range(len(row) - 1):
                if row[place] == row[place + 1]:
                    self.assertIs(is_tame(row, place), False)

    def test_an_equal_weight_helps(self):
        self.assertIs(is_tame((1, 1, 2), 1), True)
        self.assertIs(is_tame((2, 1, 2), 0), True)
        self.assertIs(is_tame((1, 2, 1), 0), False)
        self.assertIs(is_tame((2, 1, 2), 1), False)

    def test_rows_without_equal_weights_have_the_free_places(self):
        for row in [row for row in SMALL if len(set(row)) == len(row)] + list(LONG_ROWS):
            self.check_kinds(tame_places(row), free_places(row, House("l-h")))

    def test_places_of_short_rows(self):
        for row in ((), [5]):
            self.check_kinds(tame_places(row), [])
            for place in (-1, 0, 1):
                self.check_error(InvalidPlace(place), is_tame, row, place)
                self.check_error(InvalidPlace(place), tame_change, row, place)


class Changes(MillTest):

    def test_tame_change(self):
        for row in SMALL:
            for place in range(len(row) - 1):
                if plain.is_tame(row, place):
                    goal = tame_change(list(row), place)
                    self.check_kinds(goal, plain.change(row, place))
                    self.check_kinds(tame_change(goal, place), row)
                else:
                    self.check_error(Barred(place, 0), tame_change, row, place)

    def test_tame_after(self):
        walk = [1, 0, 2, 1, 0, 0, 2, 3, 1]
        for row in [row for row in SMALL if len(row) == 5]:
            present = row
            for step, place in enumerate(walk):
                self.check_kinds(tame_after(list(row), walk[:step]), present)
                self.check_kinds(tame_after(row, tuple(walk[:step])), present)
                if not plain.is_tame(present, place):
                    self.check_error(Barred(place, step), tame_after, row, walk)
                    break
                present = plain.change(present, place)

    def test_walks_of_many_places(self):
        for row in ((1, 1, 2), (0,) * 38 + (1, 2)):
            place = len(row) - 2
            for walk in ([place] * 20000, (place,) * 20000):
                self.check_kinds(tame_after(row, walk), row)
            for walk in ([place] * 20001, (place,) * 20001):
                self.check_error(InvalidWalk(walk), tame_after, row, walk)
        self.check_error(Barred(0, 19999), tame_after, (1, 1, 2), [1] * 19999 + [0])

    def test_rows_without_equal_weights_walk_as_under_millbrook(self):
        for row in LONG_ROWS:
            places = tame_places(row)
            for place in places:
                self.check_kinds(tame_after(row, [place]), after(row, [place], House("l-h")))


class NamedStones(MillTest):

    def test_named_stones(self):
        self.check_kinds(named_stones((5, 3, 5, 5, 3)), [(5, 1), (3, 1), (5, 2), (5, 3), (3, 2)])
        self.check_kinds(named_stones([]), [])
        for row in SMALL + list(LONG_BAG_ROWS):
            self.check_kinds(named_stones(list(row)), plain.named(row))

    def test_named_turned(self):
        for weights in plain.bags(4):
            for first in plain.bag_rows(weights):
                for second in plain.bag_rows(weights):
                    self.check_kinds(named_turned(first, list(second)), plain.named_turned(first, second))

    def test_named_turned_in_long_rows(self):
        for row in LONG_BAG_ROWS:
            expected = plain.named_turned(row, row[::-1])
            self.check_kinds(named_turned(row, row[::-1]), expected)
            self.check_kinds(named_turned(row, row), [])
        self.assertEqual(len(named_turned(tuple(range(40)), tuple(range(40))[::-1])), 780)

    def test_equal_weights_are_never_turned(self):
        self.check_kinds(named_turned((1, 1), (1, 1)), [])
        self.check_kinds(named_turned((1, 1, 2), (2, 1, 1)), [((1, 1), (2, 1)), ((1, 2), (2, 1))])

    def test_tame_changes_keep_the_order_of_equal_weights(self):
        for row in SMALL:
            for place in tame_places(row):
                stones = named_stones(row)
                goal = list(stones)
                goal[place], goal[place + 1] = goal[place + 1], goal[place]
                self.assertEqual(named_stones(tame_change(row, place)), goal)
