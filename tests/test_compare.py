"""Comparing houses: rows of three stones, houses that join everything, alike houses, finest houses [43] to [46]."""

from itertools import combinations, permutations

from millbrook.changes import free_places, is_free
from millbrook.compare import alike, finest_joining, houses_joining, joins_all, parting_rows
from millbrook.errors import InvalidHouse, InvalidNumber, InvalidRow, UnlikeStones
from millbrook.houses import House
from millbrook.seals import comes
from millbrook.sorts import sort_of
from tests import search, support
from tests.support import LONG_ROWS, MillTest

HOUSES = House.every()
RING = ((1, 2, 3), (1, 3, 2), (3, 1, 2), (3, 2, 1), (2, 3, 1), (2, 1, 3))
RING_KINDS = ("l-", "-b", "h-", "-l", "b-", "-h")


def finest(texts):
    """Those of the texts of houses of which no other one among them is finer."""
    houses = [House(text) for text in texts]
    return [house.text for house in houses if not any(other != house and other.is_finer(house) for other in houses)]


class ThreeStones(MillTest):

    def test_each_two_neighbours_of_the_ring_are_joined_by_one_kind(self):
        for at, row in enumerate(RING):
            following = RING[(at + 1) % 6]
            for house in HOUSES:
                one_change = [place for place in free_places(row, house)
                              if row[:place] + (row[place + 1], row[place]) + row[place + 2:] == following]
                self.assertEqual(len(one_change), int(RING_KINDS[at] in house))

    def test_a_house_joins_two_rows_if_it_names_all_kinds_on_one_arc(self):
        for house in HOUSES:
            for at in range(6):
                for other in range(6):
                    low, high = min(at, other), max(at, other)
                    arcs = (RING_KINDS[low:high], RING_KINDS[high:] + RING_KINDS[:low])
                    joined = any(all(kind in house for kind in arc) for arc in arcs)
                    self.assertIs(comes(RING[at], RING[other], house), joined)


class JoiningAll(MillTest):

    def test_as_the_document_says(self):
        for house in HOUSES:
            for stones in range(61):
                if stones < 3:
                    expected = stones < 2
                else:
                    expected = len(house) >= 5 if stones == 3 else sort_of(house)[0] >= 19
                self.assertIs(joins_all(house, stones), expected)

    def test_against_a_search(self):
        for house in HOUSES:
            for stones in range(6):
                self.assertIs(joins_all(house, stones), len(search.classes(stones, house.number)) == 1)

    def test_wrong_numbers(self):
        for house in HOUSES[::7]:
            for bad in support.NOT_INTEGERS + (-1, 61, 10**5000):
                self.check_error(InvalidNumber(bad), joins_all, house, bad)
                self.check_error(InvalidNumber(bad), alike, house, house, bad)
        self.check_error(InvalidHouse("l-h"), joins_all, "l-h", 61)
        self.check_error(InvalidHouse(None), alike, HOUSES[0], None, 61)
        self.check_error(InvalidHouse("-"), alike, "-", None, 61)


class Alike(MillTest):

    def test_every_pair_for_few_stones(self):
        for stones in range(5):
            classes = [search.classes(stones, house.number) for house in HOUSES]
            for at, one in enumerate(HOUSES):
                for other_at, other in enumerate(HOUSES):
                    self.assertIs(alike(one, other, stones), classes[at] == classes[other_at])

    def test_every_pair_for_many_stones(self):
        for stones in (4, 5, 17, 40, 60):
            join = [joins_all(house, stones) for house in HOUSES]
            for at, one in enumerate(HOUSES):
                for other_at, other in enumerate(HOUSES):
                    self.assertIs(alike(one, other, stones), at == other_at or (join[at] and join[other_at]))

    def test_all_numbers(self):
        pairs = [(House(one), House(other)) for one, other in (
            ("l-", "b-"), ("lbh-lb", "lbh-lbh"), ("lbh-b", "b-lbh"), ("lbh-b", "lbh-lbh"), ("lh-lb", "bh-lbh"))]
        for stones in range(61):
            found = [alike(one, other, stones) for one, other in pairs]
            self.assertEqual(found, [stones < 3, True, stones != 3, stones != 3, stones != 3])

    def test_houses_made_anew(self):
        self.assertIs(alike(House("l-h"), House.by_number(33), 10), True)
        self.assertIs(parting_rows(House("l-h"), House.by_number(33)), None)


class PartingRows(MillTest):

    def test_every_pair(self):
        pairs = list(combinations(search.rows(3), 2))
        joined = [[other in search.distances(one, house.number) for one, other in pairs] for house in HOUSES]
        for at, one in enumerate(HOUSES):
            for other_at, other in enumerate(HOUSES):
                differ = [pair for index, pair in enumerate(pairs) if joined[at][index] != joined[other_at][index]]
                self.check_kinds(parting_rows(one, other), differ[0] if differ else None)
                always = all(alike(one, other, stones) for stones in (0, 1, 2, 3, 4, 5, 30, 60))
                self.assertIs(parting_rows(one, other) is None, always)
                if at != other_at:
                    self.assertIs(always, min(len(one), len(other)) >= 5)

    def test_errors(self):
        for bad in support.not_houses():
            self.check_error(InvalidHouse(bad), parting_rows, bad, None)
            self.check_error(InvalidHouse(bad), parting_rows, HOUSES[4], bad)


class Finer(MillTest):

    def test_classes_under_a_finer_house_lie_in_classes(self):
        for stones in (3, 4):
            for one in HOUSES:
                for other in HOUSES:
                    if one.is_finer(other):
                        wider = {row: at for at, rows in enumerate(search.classes(stones, other.number)) for row in rows}
                        for rows in search.classes(stones, one.number):
                            self.assertEqual(len({wider[row] for row in rows}), 1)

    def test_free_places_under_joined_houses(self):
        for one in HOUSES[::4]:
            for other in HOUSES[::3]:
                for row in search.rows(4)[::5] + [(4, 2, 5, 1, 3)]:
                    for place in range(len(row) - 1):
                        either = is_free(row, place, one) or is_free(row, place, other)
                        self.assertIs(is_free(row, place, one | other), either)

    def test_chains_of_rows_under_joined_houses(self):
        for stones in (3, 4):
            for one in HOUSES[::3]:
                for other in HOUSES[::2]:
                    groups = {row: {row} for row in search.rows(stones)}
                    for rows in search.classes(stones, one.number) + search.classes(stones, other.number):
                        union = set().union(*[groups[row] for row in rows])
                        for row in union:
                            groups[row] = union
                    chained = sorted({tuple(sorted(group)) for group in groups.values()})
                    joined = search.classes(stones, (one | other).number)
                    self.assertEqual(chained, sorted(map(tuple, joined)))


class Joining(MillTest):

    def check_pair(self, first, second):
        """The joining and the finest joining houses of two rows, one by one."""
        texts = [house.text for house in HOUSES if comes(first, second, house)]
        self.check_kinds(houses_joining(first, second), texts)
        self.check_kinds(finest_joining(first, second), finest(texts))

    def test_all_pairs_of_few_stones(self):
        for stones in range(5):
            for first in search.rows(stones):
                for second in search.rows(stones)[::1 if stones < 4 else 5]:
                    self.check_pair(first, second)

    def test_against_a_search(self):
        for stones in (2, 3, 4):
            for first in search.rows(stones)[::5]:
                joined = {second: [] for second in search.rows(stones)}
                for house in HOUSES:
                    for second in search.distances(first, house.number):
                        joined[second].append(house.text)
                for second in joined:
                    self.assertEqual(houses_joining(first, second), joined[second])

    def test_rows_of_five_and_of_forty_stones(self):
        for first in search.rows(5)[::17]:
            for second in search.rows(5)[::13]:
                self.check_pair(first, second)
        for first, second in zip(LONG_ROWS, LONG_ROWS[1:2] + LONG_ROWS[:1]):
            self.check_pair(first, list(second))
        self.check_pair(LONG_ROWS[0], (1, 0) + LONG_ROWS[0][2:])

    def test_a_row_and_itself(self):
        singles = [house.text for house in HOUSES if len(house) == 1]
        for row in ((), (5,), [2, 1], (3, 1, 2), LONG_ROWS[2]):
            self.check_kinds(houses_joining(row, row), [house.text for house in HOUSES])
            self.check_kinds(finest_joining(row, tuple(row)), singles)
        self.check_kinds([houses_joining((1, 2), (2, 1)), finest_joining((1, 2), (2, 1))], [[], []])

    def test_errors(self):
        for function in (houses_joining, finest_joining):
            self.check_error(InvalidRow([1, 1]), function, [1, 1], None)
            self.check_error(InvalidRow(None), function, [1, 2], None)
            self.check_error(UnlikeStones([1, 2], (1, 3)), function, [1, 2], (1, 3))

    def test_the_texts_stand_in_the_order_of_their_numbers(self):
        for first, second in permutations(search.rows(3), 2):
            numbers = [House(text).number for text in finest_joining(first, second)]
            self.assertEqual(numbers, sorted(numbers))
