"""Far couples, reach, parting couples and the brook [13] to [17]."""

from itertools import product

from millbrook.errors import InvalidWeight, NothingLaid, TooMany, UnlikeStones
from millbrook.far import Brook, comes_tame, covers, far_couples, parting_couple, reach, rising
from millbrook.far import shows_parting, tame_distance, tame_walk
from millbrook.tame import is_tame, named_turned, tame_after, tame_change, tame_places
from tests import plain, support
from tests.support import LONG_BAG_ROWS, TOP, MillTest

SMALL = [row for weights in plain.bags(5) for row in plain.bag_rows(weights)]


class Couples(MillTest):

    def test_rising_and_far_couples(self):
        for row in SMALL + list(LONG_BAG_ROWS):
            self.check_kinds(rising(list(row)), plain.rising(row))
            self.check_kinds(far_couples(list(row)), plain.far_couples(row))
            self.check_kinds(rising(row), plain.rising(row))
            self.check_kinds(far_couples(row), plain.far_couples(row))

    def test_examples(self):
        self.check_kinds(rising((2, 4, 1, 3)), [(1, 3), (2, 3), (2, 4)])
        self.check_kinds(far_couples((2, 4, 1, 3)), [(1, 3), (2, 4)])
        self.check_kinds(far_couples((1, 1, 2, 1)), [(1, 2)])
        self.check_kinds(parting_couple((2, 1, 3), (3, 1, 2)), (0, (1, 3), 1, 2))

    def test_rows_without_couples(self):
        for row in ((), (5,), (5,) * 40, tuple(range(40))[::-1], (3, 3, 2, 2, 1)):
            self.check_kinds(rising(row), [])
            self.check_kinds(far_couples(row), [])

    def test_far_couples_ascend_in_both_weights(self):
        for row in SMALL + list(LONG_BAG_ROWS):
            couples = far_couples(row)
            for (a, b), (c, d) in zip(couples, couples[1:]):
                self.assertTrue(a < c and b < d)

    def test_covers(self):
        couples = [(a, b) for a in range(4) for b in range(a + 1, 4)] + [(-TOP, TOP)]
        for a, b in couples:
            for x, y in couples:
                self.assertIs(covers((a, b), (x, y)), a <= x and b >= y)

    def test_reach(self):
        for row in SMALL + list(LONG_BAG_ROWS):
            self.check_kinds(reach(list(row)), plain.reach(row))

    def test_same_reach_and_same_far_couples(self):
        for weights in plain.bags(4):
            for first in plain.bag_rows(weights):
                for second in plain.bag_rows(weights):
                    self.assertIs(reach(first) == reach(second), comes_tame(first, second))

    def test_covered_couples_are_within_reach(self):
        for row in SMALL:
            far = dict(reach(row))
            for x, y in product(sorted(far), repeat=2):
                if x < y:
                    within = far[x] is not None and y <= far[x]
                    self.assertIs(any(covers(couple, (x, y)) for couple in far_couples(row)), within)


class ComesOf(MillTest):

    def test_classes_of_small_rows(self):
        for weights in plain.bags(5):
            classes = plain.classes(weights)
            for one in classes:
                first = min(one)
                for other in classes:
                    for second in other:
                        self.assertIs(comes_tame(first, second), one is other)
                        self.assertIs(comes_tame(list(second), first), one is other)

    def test_classes_of_six_stones(self):
        for weights in ((1, 2, 3, 4, 5, 6), (1, 1, 2, 2, 3, 3), (1, 2, 2, 2, 3, 4), (1, 1, 1, 2, 3, 4)):
            classes = plain.classes(weights)
            couples = [far_couples(min(rows)) for rows in classes]
            self.assertEqual(len(set(map(tuple, couples))), len(classes))
            for rows, expected in zip(classes, couples):
                for row in rows:
                    self.assertEqual(far_couples(row), expected)

    def test_least_numbers_of_changes(self):
        for weights in plain.bags(5):
            for rows in plain.classes(weights):
                for first in sorted(rows)[::7]:
                    away = plain.distances(first, plain.is_tame)
                    for second in away:
                        self.check_kinds(tame_distance(first, second), away[second])
                        self.assertEqual(len(plain.named_turned(first, second)), away[second])

    def test_least_walks_are_first_in_dictionary_order(self):
        for weights in plain.bags(4):
            for first in plain.bag_rows(weights):
                for second in plain.bag_rows(weights):
                    self.check_kinds(tame_walk(list(first), second), plain.least_walk(first, second))
        for weights in ((1, 2, 3, 4, 5), (1, 2, 2, 3, 4), (1, 1, 2, 2, 3)):
            for first in plain.bag_rows(weights)[::9]:
                for second in plain.bag_rows(weights)[::4]:
                    self.check_kinds(tame_walk(first, second), plain.least_walk(first, second))

    def test_neither_comes_of_the_other(self):
        for first, second in (((1, 2), (2, 1)), ((2, 1, 3), (3, 1, 2)), ((1, 1, 2), (2, 1, 1))):
            self.assertIs(comes_tame(first, second), False)
            self.assertIsNone(tame_distance(first, second))
            self.assertIsNone(tame_walk(first, second))

    def test_a_row_comes_of_itself(self):
        for row in SMALL[::5] + list(LONG_BAG_ROWS):
            self.assertIs(comes_tame(row, list(row)), True)
            self.check_kinds(tame_distance(row, row), 0)
            self.check_kinds(tame_walk(row, row), [])
            self.assertIsNone(parting_couple(row, row))

    def test_every_turned_place_on_the_way_is_tame(self):
        for weights in plain.bags(4):
            for rows in plain.classes(weights):
                for first in rows:
                    for goal in rows:
                        turned = named_turned(first, goal)
                        stones = plain.named(first)
                        for place in range(len(first) - 1):
                            if tuple(sorted(stones[place:place + 2])) in turned:
                                self.assertTrue(is_tame(first, place))
                                nearer = tame_distance(tame_change(first, place), goal)
                                self.assertEqual(nearer, len(turned) - 1)


class LongRows(MillTest):

    def goals(self, row):
        """Rows that come of the row, by some walks of tame places."""
        present = row
        for step in range(200):
            places = tame_places(present)
            if places:
                present = tame_change(present, places[step * 7 % len(places)])
            if step % 50 == 49:
                yield present

    def test_walks_of_long_rows(self):
        for row in LONG_BAG_ROWS:
            for goal in self.goals(row):
                self.assertIs(comes_tame(row, goal), True)
                self.assertIsNone(parting_couple(row, goal))
                walk = tame_walk(row, goal)
                self.check_kinds(tame_after(row, walk), goal)
                self.assertEqual(tame_distance(row, goal), len(walk))
                self.assertEqual(len(plain.named_turned(row, goal)), len(walk))

    def test_long_rows_and_their_mirrors(self):
        for row in LONG_BAG_ROWS:
            goal = row[::-1]
            same = plain.far_couples(row) == plain.far_couples(goal)
            self.assertIs(comes_tame(row, goal), same)
            self.assertIs(tame_walk(row, goal) is None, not same)
            self.assertIs(tame_distance(row, goal) is None, not same)
            paper = parting_couple(row, goal)
            self.assertIs(paper is None, same)
            self.assertIs(shows_parting(row, goal, paper), not same)


class Partings(MillTest):

    def test_parting_couples(self):
        for weights in plain.bags(4) + [(1, 2, 3, 4, 5), (1, 2, 2, 3, 3)]:
            rows = plain.bag_rows(weights)
            for first in rows[::1 if len(weights) < 5 else 7]:
                for second in rows:
                    papers = plain.parting_couples(first, second)
                    paper = parting_couple(first, list(second))
                    self.check_kinds(paper, papers[0] if papers else None)
                    self.assertIs(paper is None, comes_tame(first, second))
                    if papers:
                        self.assertIs(shows_parting(first, list(second), paper), True)

    def test_couples_of_the_first_row_go_first_and_then_the_least(self):
        self.check_kinds(parting_couple((3, 1, 2), (2, 1, 3)), (1, (1, 3), 1, 2))
        self.check_kinds(parting_couple((2, 4, 1, 3), (4, 3, 2, 1)), (0, (1, 3), 2, 3))
        self.check_kinds(parting_couple((4, 3, 2, 1), (2, 4, 1, 3)), (1, (1, 3), 2, 3))
        self.check_kinds(parting_couple((2, 4, 3, 1), (4, 3, 1, 2)), (0, (2, 4), 0, 1))
        self.check_kinds(parting_couple((4, 3, 1, 2), (2, 4, 3, 1)), (0, (1, 2), 2, 3))

    def test_foremost_and_hindmost_stones(self):
        self.check_kinds(parting_couple((1, 1, 2, 2), (2, 2, 1, 1)), (0, (1, 2), 0, 3))
        self.check_kinds(parting_couple((3, 1, 3, 1, 3), (3, 3, 3, 1, 1)), (0, (1, 3), 1, 4))

    def test_every_paper(self):
        rows = (((2, 1, 3), (3, 1, 2)), ((3, 1, 2), (2, 1, 3)), ((1, 1, 2), (2, 1, 1)), ((2, 1, 1), (1, 1, 2)),
                ((2, 4, 1, 3), (4, 2, 1, 3)), ((4, 2, 1, 3), (2, 4, 1, 3)), ((1, 2), (1, 2)))
        for first, second in rows:
            places = range(-1, len(first) + 1)
            weights = range(0, max(first) + 2)
            for holder, a, b, low, high in product(range(-1, 3), weights, weights, places, places):
                row, other = (first, second) if holder == 0 else (second, first)
                right = (
                    holder in (0, 1) and a < b and 0 <= low < high < len(row)
                    and row[low] == a and row[high] == b
                    and not any(c <= a and d >= b for at, c in enumerate(other) for d in other[at + 1:]))
                self.assertIs(shows_parting(first, list(second), (holder, (a, b), low, high)), right)

    def test_a_paper_may_name_other_stones_than_the_foremost_and_the_hindmost(self):
        first, second = (1, 1, 2, 2), (2, 2, 1, 1)
        for low, high in product((0, 1), (2, 3)):
            self.assertIs(shows_parting(first, second, (0, (1, 2), low, high)), True)
            self.assertIs(shows_parting(second, first, (1, (1, 2), low, high)), True)
            self.assertIs(shows_parting(first, second, (1, (1, 2), low, high)), False)

    def test_a_couple_that_is_not_far_may_stand_in_a_paper(self):
        first, second = (1, 2, 3), (3, 2, 1)
        for paper in ((0, (1, 2), 0, 1), (0, (2, 3), 1, 2), (0, (1, 3), 0, 2)):
            self.assertIs(shows_parting(first, second, paper), True)
        self.assertIs(shows_parting((1, 2, 3), (2, 1, 3), (0, (1, 2), 0, 1)), False)

    def test_every_field_bent(self):
        one, other = (2, 1, 3), (3, 1, 2)
        for first, second, paper in ((one, other, (0, (1, 3), 1, 2)), (other, one, (1, (1, 3), 1, 2))):
            self.assertIs(shows_parting(first, second, paper), True)
            for at in (0, 2, 3):
                for bad in support.NOT_INTEGERS + (-1, 1 - paper[at], 3, 10**5000, (1,)):
                    self.assertIs(shows_parting(first, second, (*paper[:at], bad, *paper[at + 1:])), False)
            for at in (0, 1):
                for bad in support.NOT_INTEGERS + (-1, 2, 4, TOP, 10**5000):
                    couple = (*paper[1][:at], bad, *paper[1][at + 1:])
                    self.assertIs(shows_parting(first, second, (paper[0], couple, 1, 2)), False)
            for bad in support.NOT_INTEGERS + ([1, 3], (1,), (1, 3, 3), (3, 1), (3, 3), {1: 3}, 13):
                self.assertIs(shows_parting(first, second, (paper[0], bad, 1, 2)), False)

    def test_values_that_are_no_papers(self):
        first, second = (2, 1, 3), (3, 1, 2)
        for bad in support.NOT_INTEGERS + support.NOT_LISTS + (
                [0, (1, 3), 1, 2], (0, [1, 3], 1, 2), [0, [1, 3], 1, 2], (0, 1, 3, 1, 2), (0, (1, 3), 1),
                (0, (1, 3), 1, 2, 3), ((0, (1, 3), 1, 2),), (False, (1, 3), 1, 2), (0, (True, 3), 1, 2),
                (0, (1, 3), True, 2), (0.0, (1, 3), 1, 2), (0, (1.0, 3), 1, 2), (0, (1, 3), 1.0, 2),
                (0, (1, 3.0), 1, 2), (0, (1, 3), 1, 2.0), {0: (1, 3)}, (), None):
            self.assertIs(shows_parting(first, second, bad), False)
            self.assertIs(shows_parting(first, first, bad), False)

    def test_true_and_false_as_the_holder(self):
        self.assertIs(shows_parting((3, 1, 2), (2, 1, 3), (1, (1, 3), 1, 2)), True)
        self.assertIs(shows_parting((3, 1, 2), (2, 1, 3), (True, (1, 3), 1, 2)), False)

    def test_unlike_stones_come_before_the_paper(self):
        for paper in (None, (0, (1, 3), 1, 2), [], support.Odd()):
            for first, second in (([1, 1, 2], (1, 2, 2)), ((), (1,))):
                self.check_error(UnlikeStones(first, second), shows_parting, first, second, paper)

    def test_rows_of_no_and_one_stone(self):
        for row in ((), (5,)):
            self.assertIsNone(parting_couple(row, row))
            self.assertIs(shows_parting(row, row, (0, (1, 2), 0, 1)), False)


class Brooks(MillTest):

    def test_an_empty_brook(self):
        brook = Brook()
        self.check_kinds([brook.laid, brook.couples, brook.lightest], [(), [], None])
        self.check_error(NothingLaid(), brook.lift)
        self.check_kinds([brook.laid, brook.couples, brook.lightest], [(), [], None])

    def check_brook(self, brook, row):
        """The brook is this bag row."""
        self.check_kinds(brook.laid, tuple(row))
        self.check_kinds(brook.couples, plain.far_couples(row))
        self.check_kinds(brook.lightest, min(row) if row else None)

    def test_stones_laid_and_lifted(self):
        for row in SMALL[::3] + list(LONG_BAG_ROWS):
            brook = Brook()
            for index, weight in enumerate(row):
                self.assertIsNone(brook.lay(weight))
                self.check_brook(brook, row[:index + 1])
            for index in range(len(row) - 1, -1, -1):
                self.check_kinds(brook.lift(), row[index])
                self.check_brook(brook, row[:index])

    def test_a_full_brook(self):
        brook = Brook()
        for weight in range(40):
            brook.lay(weight)
        for weight in (0, 40, TOP):
            self.check_error(TooMany(40, 41), brook.lay, weight)
        for weight in support.NOT_WEIGHTS:
            self.check_error(InvalidWeight(weight), brook.lay, weight)
        self.check_brook(brook, tuple(range(40)))
        self.assertEqual(brook.lift(), 39)
        brook.lay(-1)
        self.check_brook(brook, (*range(39), -1))

    def test_wrong_weights_change_nothing(self):
        brook = Brook()
        brook.lay(3)
        for weight in support.NOT_WEIGHTS:
            self.check_error(InvalidWeight(weight), brook.lay, weight)
            self.check_brook(brook, (3,))
        brook.lay(TOP)
        brook.lay(-TOP)
        self.check_brook(brook, (3, TOP, -TOP))

    def test_two_brooks_side_by_side(self):
        one, other = Brook(), Brook()
        for weight in (2, 4, 1):
            one.lay(weight)
            other.lay(10 - weight)
        self.check_brook(one, (2, 4, 1))
        self.check_brook(other, (8, 6, 9))
        one.lift()
        self.check_brook(one, (2, 4))
        self.check_brook(other, (8, 6, 9))

    def test_returned_lists_belong_to_the_caller(self):
        brook = Brook()
        for weight in (2, 4, 1):
            brook.lay(weight)
        before = brook.couples
        before.append((0, 0))
        kept = brook.couples
        self.check_brook(brook, (2, 4, 1))
        brook.lay(3)
        self.assertEqual(kept, [(2, 4)])
        kept.clear()
        brook.couples.clear()
        self.check_brook(brook, (2, 4, 1, 3))
        brook.lift()
        self.check_brook(brook, (2, 4, 1))

    def test_the_rule_of_laying(self):
        for row in SMALL:
            for weight in range(0, 7):
                couples, m = plain.far_couples(row), min(row, default=weight)
                if not (weight <= m or any(a == m and b >= weight for a, b in couples)):
                    couples = [(m, weight)] + [(a, b) for a, b in couples if b > weight]
                self.assertEqual(far_couples(row + (weight,)), couples)
