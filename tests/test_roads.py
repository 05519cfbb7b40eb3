"""Distances, shortest walks, walks of any length and walks one way [31] to [34]."""

from millbrook.changes import after, is_free
from millbrook.errors import InvalidHouse, InvalidRow, NoExactDistance, TooMany, UnlikeStones
from millbrook.firsts import first_of_class
from millbrook.houses import House
from millbrook.plain import plain_distance
from millbrook.roads import distance, one_way, road, shortest
from millbrook.rows import turned
from millbrook.sorts import grade_of
from tests import reading, search
from tests.support import LONG_ROWS, TOP, MillTest, drawn_walk, shuffled

HOUSES = House.every()
SEARCHED = [house for house in HOUSES if grade_of(house) == "none"]
CLOSED = [house for house in HOUSES if grade_of(house) != "none"]
STRICT = [house for house in HOUSES if grade_of(house) == "every"]
SOME = [house for house in HOUSES if grade_of(house) == "some"]
SHORT = ((), (7,), (7, 3), (3, 7))
PAIRS_OF_SIX = (((1, 2, 3, 4, 5, 6), (2, 1, 4, 3, 6, 5)), ((4, 2, 6, 1, 5, 3), (6, 4, 2, 1, 5, 3)),
                ((6, 5, 4, 3, 2, 1), (6, 5, 4, 3, 1, 2)), ((3, 1, 2, 5, 4, 6), (3, 2, 1, 5, 6, 4)))


def spiral(stones):
    """The spiral of so many stones from 0 on that turns to the lighter one first."""
    return tuple(stones // 2 - (at + 1) // 2 if at % 2 else stones // 2 + at // 2 for at in range(stones))


def hard_rows(stones):
    """Rows that are hard to lead: near to ascending, to descending and to spirals, and others."""
    up, middle = tuple(range(stones)), spiral(stones)
    found = [up, up[::-1], middle, tuple(stones - 1 - stone for stone in middle)]
    for row in list(found):
        for place in (0, 1, stones // 2, stones - 3, stones - 2):
            found.append((*row[:place], row[place + 1], row[place], *row[place + 2:]))
    return found + [(1, 0, *up[2:]), (stones - 1, *up[:-1]), (*up[1:], 0), (*up[2:], 0, 1), shuffled(up, stones - 1)]


class Distances(MillTest):

    def test_every_pair_of_small_rows(self):
        for house in HOUSES:
            for n in range(5):
                for first in search.rows(n):
                    away = search.distances(first, house.number)
                    for second in search.rows(n):
                        self.check_kinds(distance(list(first), second, house), away.get(second))

    def test_rows_of_five_stones(self):
        for house in HOUSES:
            for first in search.rows(5)[::31]:
                away = search.distances(first, house.number)
                for second in search.rows(5)[::1 if house in CLOSED else 13]:
                    self.check_kinds(distance(first, list(second), house), away.get(second))

    def test_rows_of_six_stones(self):
        for house in HOUSES:
            for first, second in PAIRS_OF_SIX:
                away = search.distances(first, house.number)
                self.check_kinds(distance(first, second, house), away.get(second))
        for house in SEARCHED[::4]:
            for first, second in PAIRS_OF_SIX:
                self.assertEqual(distance(first, second, house), plain_distance(first, second, house))

    def test_turned_couples(self):
        for house in CLOSED:
            for row in LONG_ROWS:
                goal, _ = drawn_walk(row, house, 20, house.number)
                self.check_kinds(distance(row, goal, house), len(turned(row, goal)))

    def test_a_distance_that_is_greater_than_the_number_of_turned_couples(self):
        greater = 0
        for house in SEARCHED:
            for rows in search.classes(4, house.number):
                greater += sum(distance(rows[0], other, house) > len(turned(rows[0], other)) for other in rows)
        self.assertGreater(greater, 50)


class ShortestWalks(MillTest):

    def test_example(self):
        self.check_kinds(shortest((1, 3, 2), (2, 1, 3), House("l-h")), [1, 0])

    def test_every_pair_of_small_rows(self):
        for house in HOUSES:
            for n in range(5):
                for second in search.rows(n):
                    away = search.distances(second, house.number)
                    for first in search.rows(n):
                        walk = search.least_walk(first, second, house.number, away) if first in away else None
                        self.check_kinds(shortest(first, list(second), house), walk)

    def test_rows_of_five_stones(self):
        for house in HOUSES:
            for second in search.rows(5)[5::37]:
                away = search.distances(second, house.number)
                for first in list(away)[::2 if house in CLOSED else 19]:
                    walk = search.least_walk(first, second, house.number, away)
                    self.check_kinds(shortest(list(first), second, house), walk)

    def test_rows_of_six_stones(self):
        for house in HOUSES:
            for first, second in PAIRS_OF_SIX[::1 if house in CLOSED else 2]:
                away = search.distances(second, house.number)
                walk = search.least_walk(first, second, house.number, away) if first in away else None
                self.check_kinds(shortest(first, second, house), walk)

    def test_long_rows(self):
        for house in CLOSED:
            for row in LONG_ROWS:
                goal, _ = drawn_walk(row, house, 30, house.number)
                walk = shortest(row, goal, house)
                self.assertEqual(len(walk), len(turned(row, goal)))
                self.check_kinds(after(row, walk, house), goal)

    def test_each_step_takes_the_least_free_place_with_turned_neighbours(self):
        for house in SOME + STRICT[::6]:
            for row in (tuple(range(12)), shuffled(range(13), 6), LONG_ROWS[2]):
                goal, _ = drawn_walk(row, house, 60, house.number)
                present = row
                for place in shortest(row, goal, house):
                    couples = turned(present, goal)
                    fitting = [at for at in range(len(row) - 1) if tuple(sorted(present[at:at + 2])) in couples
                               and is_free(present, at, house)]
                    self.assertEqual(place, fitting[0])
                    present = after(present, [place], house)
                self.assertEqual(present, goal)

    def test_the_grades(self):
        for house in HOUSES:
            grade, every, some = grade_of(house), True, True
            for goal in search.rows(4):
                for present in search.distances(goal, house.number):
                    places = [place for place in range(3) if goal.index(present[place]) > goal.index(present[place + 1])]
                    free = [is_free(present, place, house) for place in places]
                    every, some = every and all(free), some and (any(free) or present == goal)
            self.assertEqual("every" if every else "some" if some else "none", grade)


class Limits(MillTest):

    def test_rows_of_few_stones(self):
        for house in HOUSES:
            for row in SHORT:
                self.check_kinds(distance(list(row), row, house), 0)
                self.check_kinds(shortest(list(row), row, house), [])
                self.check_kinds(road(list(row), row, house), [])
            for function in (distance, shortest, road):
                self.assertIsNone(function((3, 7), [7, 3], house))

    def test_more_than_six_stones_where_only_a_search_tells(self):
        for house in SEARCHED:
            for stones in (7, 8, 40):
                row = tuple(range(stones))
                for other in (row, row[::-1], shuffled(row, 3) if stones % 3 else row):
                    for function in (distance, shortest):
                        self.check_error(TooMany(6, stones), function, row, other, house)
                        self.check_error(TooMany(6, stones), function, list(row), list(other), house)
            self.check_kinds(distance(tuple(range(6)), tuple(range(6)), house), 0)
            self.check_kinds(shortest(tuple(range(6)), tuple(range(6)), house), [])

    def test_more_than_six_stones_under_the_other_houses(self):
        for house in CLOSED:
            for stones in (7, 40):
                row = tuple(range(stones))
                self.check_kinds(distance(row, list(row), house), 0)
                self.check_kinds(shortest(row, list(row), house), [])

    def test_the_order_of_the_errors(self):
        house = SEARCHED[0]
        for function in (distance, shortest):
            self.check_error(InvalidRow(None), function, tuple(range(7)), None, house)
            self.check_error(InvalidHouse(None), function, tuple(range(7)), tuple(range(8)), None)
            first, second = tuple(range(7)), list(range(1, 8))
            self.check_error(UnlikeStones(first, second), function, first, second, house)
            self.check_error(TooMany(6, 7), function, first, first[::-1], house)

    def test_too_many_stones(self):
        row = tuple(range(41))
        for house in HOUSES:
            for function in (distance, shortest, road, one_way):
                self.check_error(InvalidRow(row), function, row, row, house)
                self.check_error(InvalidRow(list(row)), function, (), list(row), house)


class Roads(MillTest):

    def test_every_pair_of_rows_of_one_class(self):
        for house in HOUSES:
            for n in range(6):
                for rows in search.classes(n, house.number):
                    for first in rows:
                        for second in rows:
                            self.check_road(first, second, house)

    def check_road(self, first, second, house):
        """The road leads from the first row to the second one and is not too long."""
        walk = road(first, second, house)
        if not search.leads(first, walk, second, house.number) or len(walk) > 10 * len(first) * len(first):
            self.fail((first, second, house, walk))
        if first == second:
            self.assertEqual(walk, [])

    def test_rows_of_six_stones(self):
        for house in HOUSES:
            for rows in search.classes(6, house.number):
                for row in rows[::1 if house in SEARCHED else 5]:
                    self.check_road(row, rows[0], house)
                for row in rows[::5]:
                    self.check_road(rows[-1], row, house)

    def test_rows_that_do_not_come_of_one_another(self):
        for house in HOUSES:
            for n in range(5):
                classes = search.classes(n, house.number)
                for at, rows in enumerate(classes):
                    for other in classes[:at] + classes[at + 1:]:
                        self.assertIsNone(road(rows[0], list(other[-1]), house))

    def test_shortest_walks(self):
        for house in CLOSED:
            for n in range(5):
                for rows in search.classes(n, house.number):
                    for row in rows:
                        self.check_kinds(road(list(rows[0]), row, house), shortest(rows[0], row, house))
            for row in LONG_ROWS[:3]:
                goal, _ = drawn_walk(row, house, 20, house.number)
                self.check_kinds(road(row, list(goal), house), shortest(row, goal, house))

    def test_equal_calls(self):
        for house in HOUSES:
            for rows in search.classes(4, house.number):
                for row in rows:
                    self.check_kinds(road(list(row), rows[0], house), road(row, list(rows[0]), House(house.text)))

    def test_other_stones(self):
        weights = (-TOP, -8, 0, 5, TOP)
        for house in SEARCHED:
            for rows in search.classes(5, house.number):
                first, second = (tuple(weights[stone - 1] for stone in row) for row in (rows[0], rows[-1]))
                self.assertEqual(after(first, road(first, second, house), house), second)

    def check_long_road(self, first, second, house):
        """As check_road, for a row of any length, and once more."""
        walk = road(first, second, house)
        self.check_kinds(after(first, walk, house), tuple(second))
        self.assertLessEqual(len(walk), 10 * len(first) * len(first))
        self.check_kinds(road(list(first), list(second), house), walk)

    def test_drawn_rows_up_to_forty_stones(self):
        for house in HOUSES:
            for at, stones in enumerate((7, 8, 11, 16, 27, 39, 40)):
                row = hard_rows(stones)[(house.number + 7 * at) % 29]
                goal, walk = drawn_walk(row, house, 30, stones)
                self.assertEqual(after(row, walk, house), goal)
                self.check_long_road(row, goal, house)
                self.check_long_road(goal, row, house)

    def test_long_rows_and_the_first_rows_of_their_classes(self):
        for house in HOUSES:
            for row in LONG_ROWS:
                self.check_long_road(row, first_of_class(row, house), house)

    def test_hard_rows(self):
        first_houses = [text for text, _, _, _ in reading.TABLE]
        for house in SEARCHED:
            for stones in (6, 7, 10, 21) if house.text in first_houses else (8,):
                for row in hard_rows(stones):
                    self.check_long_road(row, first_of_class(row, house), house)

    def test_from_a_row_to_itself(self):
        for house in HOUSES:
            for row in list(LONG_ROWS) + hard_rows(5):
                self.check_kinds(road(row, list(row), house), [])

    def test_a_returned_walk_belongs_to_the_caller(self):
        walk = road((1, 2, 3), (3, 2, 1), House("lbh-lbh"))
        walk.clear()
        self.assertEqual(len(road((1, 2, 3), (3, 2, 1), House("lbh-lbh"))), 3)

    def test_the_order_of_the_errors(self):
        for house in HOUSES:
            self.check_error(UnlikeStones((1, 2), [1, 3]), road, (1, 2), [1, 3], house)
        self.check_error(InvalidHouse(None), road, (1, 2), (1, 3), None)
        self.check_error(InvalidRow((1, True)), road, (1, 2), (1, True), None)


class OneWay(MillTest):

    def test_every_pair_of_small_rows(self):
        for house in STRICT:
            for n in range(5):
                for first in search.rows(n):
                    walks = search.one_way_walks(first, house.number)
                    for second in search.rows(n):
                        self.check_kinds(one_way(list(first), second, house), walks.get(second))

    def test_rows_of_five_stones(self):
        for house in STRICT:
            for first in search.rows(5)[::7]:
                walks = search.one_way_walks(first, house.number)
                for second in search.rows(5)[::2]:
                    self.check_kinds(one_way(first, list(second), house), walks.get(second))

    def test_long_rows(self):
        up = tuple(range(40))
        for house in STRICT:
            goal, _ = drawn_walk(up, house, 60, house.number)
            walk = one_way(up, goal, house)
            self.check_kinds(after(up, walk, house), goal)
            self.check_kinds(walk, shortest(up, goal, house))
            self.assertIs(one_way(goal, up, house) is None, goal != up)
            self.check_kinds(one_way(goal, goal, house), [])

    def test_no_walk_one_way(self):
        house = House("lbh-lbh")
        self.check_kinds(one_way((1, 2, 3), (3, 2, 1), house), [0, 1, 0])
        self.assertIsNone(one_way((3, 2, 1), (1, 2, 3), house))
        self.assertIsNone(one_way((1, 3, 2), (2, 1, 3), house))
        self.check_kinds(one_way((1, 3, 2), (3, 1, 2), house), [0])
        self.assertIsNone(one_way((1, 2), (2, 1), house))
        self.assertIsNone(one_way((1, 2, 3), (3, 2, 1), House("l-")))

    def test_houses_of_other_grades(self):
        for house in SEARCHED + SOME:
            for first, second in (((), ()), ((1, 2), [2, 1]), ((1, 2, 3), (1, 2, 3)), (tuple(range(40)), tuple(range(40)))):
                self.check_error(NoExactDistance(house), one_way, first, second, house)
            self.check_error(UnlikeStones((1,), [2]), one_way, (1,), [2], house)
            self.check_error(InvalidRow(None), one_way, (1,), None, house)
        self.check_error(InvalidHouse("b-l"), one_way, (1,), (2,), "b-l")
