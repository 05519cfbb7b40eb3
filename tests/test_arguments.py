"""Every argument of every function: wrong values of all kinds, and the order of the checks [4]."""

import inspect

from millbrook import bound, certificates, changes, compare, costs, counts, far, firsts, plain, roads, rows, seals
from millbrook import sorts, tame, words
from millbrook.books import Book
from millbrook.costs import Cost, GapCost, TableCost
from millbrook.errors import InvalidHouse, InvalidNumber, InvalidPlace, InvalidRow, TooMany, UnlikeStones
from millbrook.housebooks import house_book, least_want
from millbrook.houses import House
from millbrook.locks import Lock
from millbrook.stories import Story
from tests import support
from tests.object_calls import OBJECT_CALLS
from tests.support import TOP, MillTest
from tests.wrong import A_BAG, A_COST, A_HOUSE, A_PLACE, A_ROW, A_TABLE, A_TEXT, A_WALK, A_WEIGHT, A_WORD, BAG, HOUSE
from tests.wrong import JOINED, ROW, number

# Each call with good arguments, and what its arguments are.
CALLS = (
    (rows.ranks, (ROW, A_ROW)),
    (rows.mirrored_row, (ROW, A_ROW)),
    (rows.flipped_row, (ROW, A_ROW)),
    (rows.turned, (ROW, A_ROW), (ROW[::-1], A_ROW)),
    (rows.put_in, (ROW, A_ROW), (9, A_WEIGHT), (4, number(0, 4))),
    (rows.taken_out, (ROW, A_ROW), (2, A_WEIGHT)),
    (rows.every_row, (ROW, A_ROW)),
    (rows.row_text, (ROW, A_ROW)),
    (rows.parse_row, ("3 1 2 4", A_TEXT)),
    (House, ("l-h", (InvalidHouse, support.NOT_TEXTS + support.BAD_HOUSE_TEXTS + (0, 33)))),
    (House.by_number, (63, number(1, 63))),
    (HOUSE.is_finer, (HOUSE, A_HOUSE)),
    (changes.kinds_at, (ROW, A_ROW), (2, A_PLACE)),
    (changes.helpers, (ROW, A_ROW), (2, A_PLACE), (HOUSE, A_HOUSE)),
    (changes.nearest_helper, (ROW, A_ROW), (2, A_PLACE), (HOUSE, A_HOUSE)),
    (changes.keystone, (ROW, A_ROW), (2, A_PLACE), (HOUSE, A_HOUSE)),
    (changes.is_free, (ROW, A_ROW), (2, A_PLACE), (HOUSE, A_HOUSE)),
    (changes.free_places, (ROW, A_ROW), (HOUSE, A_HOUSE)),
    (changes.change_at, (ROW, A_ROW), (0, A_PLACE), (HOUSE, A_HOUSE)),
    (changes.after, (ROW, A_ROW), ([0], A_WALK), (HOUSE, A_HOUSE)),
    (changes.rows_along, (ROW, A_ROW), ([0], A_WALK), (HOUSE, A_HOUSE)),
    (tame.is_tame, (BAG, A_BAG), (2, A_PLACE)),
    (tame.tame_places, (BAG, A_BAG)),
    (tame.tame_change, (BAG, A_BAG), (0, A_PLACE)),
    (tame.tame_after, (BAG, A_BAG), ([0], A_WALK)),
    (tame.named_stones, (BAG, A_BAG)),
    (tame.named_turned, (BAG, A_BAG), (BAG[::-1], A_BAG)),
    (far.rising, (BAG, A_BAG)),
    (far.far_couples, (BAG, A_BAG)),
    (far.reach, (BAG, A_BAG)),
    (far.comes_tame, (BAG, A_BAG), (BAG[::-1], A_BAG)),
    (far.tame_distance, (BAG, A_BAG), (BAG[::-1], A_BAG)),
    (far.tame_walk, (BAG, A_BAG), (BAG[::-1], A_BAG)),
    (far.parting_couple, (BAG, A_BAG), (BAG[::-1], A_BAG)),
    (far.shows_parting, (BAG, A_BAG), (BAG[::-1], A_BAG), (None, None)),
    (lambda weight: far.Brook().lay(weight), (9, A_WEIGHT)),
    (words.word_of, (ROW, A_ROW)),
    (words.couples_of_word, ("U--D", A_WORD)),
    (words.plainest, ("U--D", A_WORD), (ROW, A_ROW)),
    (words.count_words, (60, number(0, 60))),
    (words.count_stuck, (60, number(0, 60))),
    (words.every_word, (4, number(0, 10))),
    (words.word_index, ("U--D", A_WORD)),
    (words.word_at, (4, number(0, 40)), (8, number(0, 8))),
    (bound.bound_pairs, (BAG, A_BAG)),
    (bound.width, (BAG, A_BAG)),
    (bound.row_index, (BAG, A_BAG)),
    (bound.row_at, ((3, 2, 1), A_BAG), (0, number(0, 0))),
    (bound.first_tame, (BAG, A_BAG)),
    (sorts.sort_of, (HOUSE, A_HOUSE)),
    (sorts.grade_of, (HOUSE, A_HOUSE)),
    (sorts.carried_row, (ROW, A_ROW), (HOUSE, A_HOUSE)),
    (seals.seal, (ROW, A_ROW), (HOUSE, A_HOUSE)),
    (seals.comes, (ROW, A_ROW), (ROW[::-1], A_ROW), (HOUSE, A_HOUSE)),
    (seals.seal_parting, (ROW, A_ROW), (ROW[::-1], A_ROW), (HOUSE, A_HOUSE)),
    (counts.class_count, (HOUSE, A_HOUSE), (60, number(0, 60))),
    (counts.class_width, (ROW, A_ROW), (HOUSE, A_HOUSE)),
    (firsts.first_of_class, (ROW, A_ROW), (HOUSE, A_HOUSE)),
    (plain.plain_class, (ROW, A_ROW), (HOUSE, A_HOUSE)),
    (plain.plain_distance, (ROW, A_ROW), (ROW[::-1], A_ROW), (HOUSE, A_HOUSE)),
    (plain.count_walks, (ROW, A_ROW), (ROW[::-1], A_ROW), (HOUSE, A_HOUSE)),
    (plain.farthest, (ROW, A_ROW), (HOUSE, A_HOUSE)),
    (roads.distance, (ROW, A_ROW), (ROW[::-1], A_ROW), (HOUSE, A_HOUSE)),
    (roads.shortest, (ROW, A_ROW), (JOINED, A_ROW), (HOUSE, A_HOUSE)),
    (roads.road, (ROW, A_ROW), (JOINED, A_ROW), (HOUSE, A_HOUSE)),
    (roads.road, (ROW, A_ROW), (ROW[::-1], A_ROW), (House("lh-lb"), A_HOUSE)),
    (roads.one_way, (ROW, A_ROW), (ROW, A_ROW), (HOUSE, A_HOUSE)),
    (lambda base: Cost(base).base, (0, number(0, TOP))),
    (lambda base: GapCost(base).base, (TOP, number(0, TOP))),
    (lambda table, base: TableCost(table, base).of(1, 2), ({(1, 2): 3}, A_TABLE), (5, number(0, TOP))),
    (costs.walk_cost, (ROW, A_ROW), ([0], A_WALK), (HOUSE, A_HOUSE), (Cost(3), A_COST)),
    (costs.least_cost, (ROW, A_ROW), (JOINED, A_ROW), (HOUSE, A_HOUSE), (GapCost(3), A_COST)),
    (lambda first, second, house: vars(certificates.answer(first, second, house)),
     (ROW, A_ROW), (JOINED, A_ROW), (HOUSE, A_HOUSE)),
    (lambda first, second, house: vars(certificates.answer(first, second, house)),
     (ROW, A_ROW), (ROW[::-1], A_ROW), (HOUSE, A_HOUSE)),
) + OBJECT_CALLS
SHORT_CALLS = (
    (rows.every_row, 7), (bound.width, 10), (bound.row_index, 10), (bound.row_at, 10, None),
    (plain.plain_class, 6, None), (plain.farthest, 6, None), (plain.plain_distance, 6, None, None),
    (plain.count_walks, 6, None, None), (Book, 10), (lambda stones: house_book(HOUSE, stones), 10),
    (lambda first, second: least_want(HOUSE, first, second), 10, None), (Story, 6, None),
    (lambda second: least_want(HOUSE, (), second), 10),
)
PAIR_CALLS = (
    rows.turned, compare.houses_joining, compare.finest_joining, Lock(HOUSE).joins, Lock(HOUSE).road,
    Lock(HOUSE).parting,
)
# These take a house behind the two rows.
HOUSE_PAIR_CALLS = (
    seals.comes, seals.seal_parting, plain.plain_distance, plain.count_walks, roads.distance, roads.shortest,
    roads.road, roads.one_way, certificates.answer,
)
BAG_PAIR_CALLS = (
    tame.named_turned, far.comes_tame, far.tame_distance, far.tame_walk, far.parting_couple,
)


def wrong_arguments():
    """Each call with its good arguments, and for each of these each error of a wrong value in its place."""
    for function, *told in CALLS:
        good = [value for value, _ in told]
        for at, (_, kind) in enumerate(told):
            error, bad_values = kind or (None, ())
            for bad in bad_values:
                yield function, good, at, error(bad)


def bad_value(error):
    """The wrong value that the error tells."""
    return list(vars(error).values())[0]


class Arguments(MillTest):

    def test_the_good_arguments_are_good(self):
        for function, *told in CALLS:
            result = function(*[good for good, _ in told])
            if inspect.isgenerator(result):
                next(result)

    def test_each_wrong_value_of_each_argument(self):
        for function, good, at, error in wrong_arguments():
            with self.subTest(function=function, at=at):
                self.check_error(error, function, *good[:at], bad_value(error), *good[at + 1:])

    def test_the_first_wrong_argument_counts(self):
        for function, good, at, error in wrong_arguments():
            worse = [support.Odd() for _ in good[at + 1:]]
            with self.subTest(function=function, at=at):
                self.check_error(error, function, *good[:at], bad_value(error), *worse)

    def test_keyword_arguments_come_last(self):
        for bad in number(0, 60)[1]:
            if bad is not None:
                self.check_error(InvalidNumber(bad), words.count_words, 5, couples=bad)
                self.check_error(InvalidNumber(-1), words.count_words, -1, couples=bad)

    def test_arguments_by_name(self):
        self.assertEqual(rows.put_in(index=0, weight=9, row=[1]), (9, 1))
        self.check_error(InvalidRow(0), rows.put_in, index=-1, weight=None, row=0)
        self.assertEqual(changes.is_free(house=HOUSE, place=0, row=[1, 2, 3]), True)
        self.check_error(InvalidPlace(2), changes.is_free, house=None, place=2, row=[1, 2, 3])

    def test_limits_of_stones_are_part_of_the_check_of_the_row(self):
        for function, most, *others in SHORT_CALLS:
            for stones in range(most + 1, 41):
                self.check_error(TooMany(most, stones), function, list(range(stones)), *others)
            self.check_error(InvalidRow(range(41)), function, range(41), *others)
            for bad in (list(range(41)), tuple(range(41)), [True] * (most + 1)):
                self.check_error(InvalidRow(bad), function, bad, *others)

    def test_unlike_stones(self):
        pairs = (((), (1,)), ([1], []), ((1, 2), (1, 3)), ((1, 2, 3), (1, 2)), ([1, 2], (3, 4)),
                 (tuple(range(40)), list(range(1, 41))))
        for first, second in pairs:
            for function in PAIR_CALLS + BAG_PAIR_CALLS:
                self.check_error(UnlikeStones(first, second), function, first, second)
            self.check_error(UnlikeStones(first, second), far.shows_parting, first, second, None)

    def test_unlike_stones_under_a_house(self):
        pairs = (((), (1,)), ([1], []), ((1, 2), (1, 3)), ((1, 2, 3), (1, 2)), ([1, 2], (3, 4)),
                 ((1, 2, 3), (1, 2, 4)), ([5, 4, 3, 2, 1, 0], (0, 1, 2, 3, 4, 6)))
        for first, second in pairs:
            for function in HOUSE_PAIR_CALLS:
                for house in House.every():
                    self.check_error(UnlikeStones(first, second), function, first, second, house)
                self.check_error(InvalidHouse("l-h"), function, first, second, "l-h")
                self.check_error(InvalidRow([1, 1]), function, first, [1, 1], None)
                self.check_error(InvalidRow([1, 1]), function, [1, 1], second, None)

    def test_unlike_bags(self):
        pairs = (((1, 1), (1,)), ([1, 2, 2], (1, 1, 2)), ([1, 1, 2, 2], [2, 1, 2, 2]), ((5,) * 40, (5,) * 39),
                 ((5,) * 40, (5,) * 39 + (6,)))
        for first, second in pairs:
            for function in BAG_PAIR_CALLS:
                self.check_error(UnlikeStones(first, second), function, first, second)
            self.check_error(UnlikeStones(first, second), far.shows_parting, first, second, None)
            self.check_error(
                UnlikeStones(first, second), far.shows_parting, first, second, (0, (1, 2), 0, 1))

    def test_unlike_stones_come_behind_the_checks_of_both_rows(self):
        for function in PAIR_CALLS + BAG_PAIR_CALLS:
            self.check_error(InvalidRow((True,)), function, (1, 2), (True,))
            self.check_error(InvalidRow([None]), function, [None], (True,))

    def test_lists_and_tuples_are_alike_and_stay_as_they_were(self):
        for function, *told in CALLS:
            values = [good for good, _ in told]
            copies = [list(value) if isinstance(value, list) else value for value in values]
            packed = [tuple(value) if isinstance(value, list) else value for value in values]
            result, other = function(*values), function(*packed)
            if inspect.isgenerator(result):
                result, other = list(result), list(other)
            self.check_kinds(result, other)
            self.assertEqual(values, copies)

    def test_returned_lists_may_be_changed(self):
        for function, *told in CALLS:
            values = [good for good, _ in told]
            result = function(*values)
            if isinstance(result, list):
                before = list(result)
                result.append("more")
                result.reverse()
                self.assertEqual(function(*values), before)
