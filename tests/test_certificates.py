"""Certificates: what they hold, when they hold, and answers [37]."""

from millbrook.certificates import Certificate, Parting, Road, answer
from millbrook.errors import InvalidHouse, InvalidRow, UnlikeStones
from millbrook.houses import House
from millbrook.roads import road
from millbrook.seals import comes, seal, seal_parting
from tests import search, support
from tests.support import LONG_ROWS, MillTest, drawn_walk, same, shuffled

HOUSES = House.every()
HOUSE = House("l-h")
# One way from the first of these rows to the second one under the house.
FIRST, SECOND, PLACES = (1, 3, 2), (2, 1, 3), [1, 0]
ANY = support.NOT_INTEGERS + support.NOT_LISTS + support.not_houses() + (0, 1, -1, 10**5000, [[]], ((),), [None], (None,))


class Fields(MillTest):

    def test_any_values(self):
        for value in ANY:
            plain = Certificate(value, value, value)
            walk = Road(value, value, value, value)
            parting = Parting(value, value, value, value, value, value)
            for paper, names in ((plain, ["house", "first", "second"]), (walk, ["house", "first", "second", "places"]),
                                 (parting, ["house", "first", "second", "index", "left", "right"])):
                self.assertEqual(list(vars(paper)), names)
                for name in names:
                    self.check_kept(getattr(paper, name), value)
                self.assertIs(paper.holds(), False)

    def check_kept(self, found, value):
        """A list was copied, any other value is the very same."""
        self.assertTrue(same(found, value))
        self.assertIs(found is value, not isinstance(value, list))

    def test_each_field_keeps_its_own_value(self):
        paper = Parting(HOUSE, [1], (2,), 3, "4", None)
        self.check_kinds([paper.first, paper.second, paper.index, paper.left, paper.right], [[1], (2,), 3, "4", None])
        self.assertIs(paper.house, HOUSE)
        self.check_kinds(vars(Road(1, 2, 3, 4)), {"house": 1, "first": 2, "second": 3, "places": 4})
        self.check_kinds(vars(Certificate(1, 2, 3)), {"house": 1, "first": 2, "second": 3})
        self.check_kinds(vars(Road(house=1, first=2, second=3, places=4)), vars(Road(1, 2, 3, 4)))
        self.check_kinds(vars(Parting(house=1, first=2, second=3, index=4, left=5, right=6)), vars(Parting(1, 2, 3, 4, 5, 6)))

    def test_lists_that_the_caller_changes(self):
        first, second, places = list(FIRST), list(SECOND), list(PLACES)
        paper = Road(HOUSE, first, second, places)
        for values in (first, second, places):
            values.append(9)
        self.check_kinds([paper.first, paper.second, paper.places], [list(FIRST), list(SECOND), PLACES])
        self.assertIs(paper.holds(), True)
        first, second, left = [3, 2, 1], [3, 1, 2], [2]
        paper = Parting(House("lb-"), first, second, 1, 2, 1)
        first.clear()
        second.reverse()
        self.assertIs(paper.holds(), True)
        paper = Parting(HOUSE, first, second, left, left, left)
        left.append(3)
        self.check_kinds([paper.index, paper.left, paper.right], [[2], [2], [2]])

    def test_classes(self):
        for made in (Road, Parting):
            self.assertEqual(made.__bases__, (Certificate,))
        self.assertEqual(Certificate.__bases__, (object,))


class Holding(MillTest):

    def test_plain_certificates(self):
        for first, second, holds in (
                ((), [], True), ((5,), (5,), True), ([1, 2], (2, 1), True), ((3, 1, 2), (1, 2, 3), True),
                (tuple(range(40)), list(range(40))[::-1], True), ((), (1,), False), ((1, 2), (1, 3), False),
                ((1, 2, 3), (1, 2), False), (tuple(range(41)), tuple(range(41)), False), ((1, 1), (1, 1), False)):
            for house in HOUSES[::9]:
                self.assertIs(Certificate(house, first, second).holds(), holds)
                self.assertIs(Certificate(house.text, first, second).holds(), False)

    def test_bent_houses_and_rows(self):
        papers = (lambda *told: Certificate(*told), lambda *told: Road(*told, []),
                  lambda *told: Parting(*told, 0, "end", (1, 3)))
        for made in papers:
            for bad in support.not_houses() + support.NOT_LISTS:
                self.assertIs(made(bad, FIRST, FIRST).holds(), False)
            for bad in support.NOT_ROWS:
                for told in ((HOUSE, bad, FIRST), (HOUSE, FIRST, bad), (HOUSE, bad, bad), (bad, bad, bad)):
                    self.assertIs(made(*told).holds(), False)

    def test_roads(self):
        self.assertIs(Road(HOUSE, FIRST, SECOND, PLACES).holds(), True)
        self.assertIs(Road(HOUSE, list(FIRST), list(SECOND), tuple(PLACES)).holds(), True)
        self.assertIs(Road(HOUSE, FIRST, SECOND, [1, 1, 1, 0]).holds(), True)
        self.assertIs(Road(HOUSE, FIRST, FIRST, []).holds(), True)
        self.assertIs(Road(HOUSE, (), [], ()).holds(), True)
        for places in ([], [1], [0], [0, 1], [1, 0, 0], [1, 0, 1], [1, 2], [2], [-1], [1, -2], [1, True], [True, 0],
                       [1, 0.0], [1, None], [None], [[1], [0]], "10", {1: 0}, {1, 0}, 10, None, [1, 0] * 10001,
                       iter([1, 0]), range(2), b"\1\0", [1, 10**5000], support.Odd(), support.Anything()):
            self.assertIs(Road(HOUSE, FIRST, SECOND, places).holds(), False)
        for house in HOUSES:
            expected = search.leads(FIRST, PLACES, SECOND, house.number)
            self.assertIs(Road(house, FIRST, SECOND, PLACES).holds(), expected)
        self.assertIs(Road(HOUSE, SECOND, FIRST, PLACES).holds(), False)
        self.assertIs(Road(HOUSE, (1, 4, 3), (3, 1, 4), PLACES).holds(), True)
        self.assertIs(Road(HOUSE, FIRST, (2, 1, 4), PLACES).holds(), False)

    def test_the_longest_roads(self):
        row = tuple(range(40))
        self.assertIs(Road(HOUSE, row, row, [38] * 20000).holds(), True)
        self.assertIs(Road(HOUSE, row, row, [38] * 19999).holds(), False)
        self.assertIs(Road(HOUSE, row, row, [38] * 20002).holds(), False)

    def test_partings(self):
        house = House("lb-")
        self.assertIs(Parting(house, (3, 2, 1), [3, 1, 2], 1, 2, 1).holds(), True)
        for index in support.NOT_INTEGERS + (-1, 0, 2, 3, 10**40, 10**5000, -10**5000, [1], (1,)):
            if index is not True and not isinstance(index, float):
                self.assertIs(Parting(house, (3, 2, 1), (3, 1, 2), index, 2, 1).holds(), False)
        for bad in ANY + (3, "end", None, [2], (2,)):
            if bad is not True and not isinstance(bad, float) and not (isinstance(bad, int) and bad == 1):
                self.assertIs(Parting(house, (3, 2, 1), (3, 1, 2), 1, 2, bad).holds(), False)
            self.assertIs(Parting(house, (3, 2, 1), (3, 1, 2), 1, bad, 1).holds(), False)
        self.assertIs(Parting(house, (3, 2, 1), (3, 1, 2), 1, 1, 2).holds(), False)
        self.assertIs(Parting(house, (3, 1, 2), (3, 2, 1), 1, 2, 1).holds(), False)
        self.assertIs(Parting(house, (3, 1, 2), (3, 2, 1), 1, 1, 2).holds(), True)

    def test_an_index_that_counts_from_the_end(self):
        first, second = (3, 2, 1), (1, 2, 3)
        for text in ("l-", "lb-", "lbh-", "lh-", "b-b", "bh-l"):
            one, other = seal(first, House(text))[1], seal(second, House(text))[1]
            for index in range(1, min(len(one), len(other)) + 1):
                self.assertIs(Parting(House(text), first, second, -index, one[-index], other[-index]).holds(), False)
        self.assertIs(Parting(HOUSE, (1, 2), (2, 1), -1, 2, 1).holds(), False)
        self.assertIs(Parting(HOUSE, (1, 2), (2, 1), 1, 2, 1).holds(), True)

    def test_an_index_at_which_the_entries_are_the_same(self):
        self.assertIs(Parting(House("lb-"), (3, 2, 1), (3, 1, 2), 0, 3, 3).holds(), False)
        self.assertIs(Parting(House("lb-"), (3, 2, 1), (3, 1, 2), 3, "end", "end").holds(), False)
        self.assertIs(Parting(House("lb-"), (3, 2, 1), (3, 2, 1), 0, 3, 3).holds(), False)
        self.assertIs(Parting(House("lbh-lbh"), (3, 2, 1), (3, 1, 2), 0, "end", "end").holds(), False)
        self.assertIs(Parting(HOUSE, (), (), 0, "end", "end").holds(), False)

    def test_another_index_than_the_least(self):
        first, second = (3, 2, 1), (3, 1, 2)
        self.assertIs(Parting(House("lb-"), first, second, 2, 1, "end").holds(), True)
        self.assertIs(Parting(House("lb-"), first, second, 2, "end", 1).holds(), False)
        self.assertIs(Parting(House("lb-"), second, first, 2, "end", 1).holds(), True)

    def test_entries_of_every_kind(self):
        for text, first, second, index, left, right in (
                ("l-", (3, 1, 2), (3, 2, 1), 1, (1, 2), (2,)), ("b-", (3, 1, 2), (1, 3, 2), 2, None, 1),
                ("l-h", (1, 2, 3), (3, 2, 1), 0, (1, 3), "end"), ("lb-l", (1, 2, 3), (2, 1, 3), 0, None, 2),
                ("lh-b", (2, 1, 3), (2, 3, 1), 0, "lighter", "heavier"), ("bh-l", (1, 2, 3), (2, 1, 3), 0, 3, 0),
                ("bh-lb", (1, 2, 3), (2, 1, 3), 0, "yes", "no"), ("-h", (1, 2), (2, 1), 0, 1, 2)):
            paper = Parting(House(text), first, second, index, left, right)
            self.assertIs(paper.holds(), True, text)
            self.assertEqual(seal_parting(first, second, House(text)), (index, left, right))
            for bad in ANY + ("end", None, "yes", 5, (1,), (1, 2, 3), (3, 1), [1, 2], (1, None), ((1, 2),), ("1", "2")):
                if not isinstance(bad, (bool, float)):
                    for name, entry in (("left", left), ("right", right)):
                        bent = Parting(House(text), first, second, index, left, right)
                        setattr(bent, name, bad)
                        self.assertIs(bent.holds(), same(bad, entry), (text, name, bad))

    def test_values_that_refuse_to_be_compared(self):

        class Refusing:

            def __eq__(self, other):
                raise RuntimeError

            __lt__ = __le__ = __gt__ = __ge__ = __ne__ = __len__ = __iter__ = __bool__ = __eq__
            __hash__ = None

        bad = Refusing()
        for paper in (Certificate(bad, bad, bad), Road(bad, bad, bad, bad), Parting(bad, bad, bad, bad, bad, bad),
                      Road(HOUSE, FIRST, SECOND, bad), Road(HOUSE, FIRST, SECOND, [1, bad]),
                      Road(HOUSE, [bad], (bad,), []), Parting(House("lb-"), (3, 2, 1), (3, 1, 2), bad, 2, 1),
                      Parting(House("lb-"), (3, 2, 1), (3, 1, 2), 1, bad, 1),
                      Parting(House("lb-"), (3, 2, 1), (3, 1, 2), 1, 2, bad),
                      Parting(House("l-"), (3, 1, 2), (3, 2, 1), 1, (1, bad), (2,)),
                      Parting(House("l-h"), (1, 2, 3), (3, 2, 1), 0, (1, 3), bad),
                      Parting(House("b-"), (3, 1, 2), (1, 3, 2), 2, bad, 1)):
            self.assertIs(paper.holds(), False)


class Summaries(MillTest):

    def test_examples(self):
        self.check_kinds(Certificate(HOUSE, FIRST, SECOND).summary(), "l-h: 3 stones")
        self.check_kinds(Road(HOUSE, FIRST, SECOND, PLACES).summary(), "l-h: 3 stones, 2 changes")
        self.check_kinds(Parting(HOUSE, FIRST, SECOND, 0, 1, 2).summary(), "l-h: 3 stones, entry 0 differs")

    def test_one_and_none(self):
        self.check_kinds(Certificate(HOUSE, [5], (5,)).summary(), "l-h: 1 stones")
        self.check_kinds(Certificate(House("lbh-lbh"), (), ()).summary(), "lbh-lbh: 0 stones")
        self.check_kinds(Road(HOUSE, [5], (5,), ()).summary(), "l-h: 1 stones, 0 changes")
        self.check_kinds(Road(House("-b"), [1, 3, 2], [3, 1, 2], (0,)).summary(), "-b: 3 stones, 1 changes")

    def test_great_numbers(self):
        row = list(range(40))
        self.check_kinds(Road(HOUSE, row, row, [38] * 20000).summary(), "l-h: 40 stones, 20000 changes")
        self.check_kinds(Parting(HOUSE, row, row, 10**40, None, None).summary(),
                         "l-h: 40 stones, entry 1" + "0" * 40 + " differs")

    def test_certificates_that_do_not_hold(self):
        self.check_kinds(Road(HOUSE, FIRST, FIRST, ["x", None]).summary(), "l-h: 3 stones, 2 changes")
        self.check_kinds(Parting(HOUSE, FIRST, FIRST, 7, 1, 1).summary(), "l-h: 3 stones, entry 7 differs")


class Answers(MillTest):

    def check_answer(self, first, second, house):
        """The answer is right, holds, and stops to hold when it is bent."""
        paper = answer(first, second, house)
        self.assertIs(paper.holds(), True)
        self.check_kinds([paper.first, paper.second], [tuple(first), tuple(second)])
        self.assertEqual(paper.house, house)
        if comes(first, second, house):
            self.assertIs(type(paper), Road)
            self.check_kinds(paper.places, road(first, second, house))
            return
        self.assertIs(type(paper), Parting)
        self.check_kinds((paper.index, paper.left, paper.right), seal_parting(first, second, house))
        for bent in (Parting(house, first, second, paper.index, paper.right, paper.left),
                     Parting(house, first, second, paper.index + 41, paper.left, paper.right),
                     Parting(house, second, first, paper.index, paper.left, paper.right),
                     Parting(house, first, first, paper.index, paper.left, paper.right)):
            self.assertIs(bent.holds(), False)

    def test_every_pair_of_small_rows(self):
        for house in HOUSES:
            for n in range(4):
                for first in search.rows(n):
                    for second in search.rows(n):
                        self.check_answer(list(first), second, house)

    def test_rows_of_four_and_five_stones(self):
        for house in HOUSES:
            for first in search.rows(4)[::5]:
                for second in search.rows(4)[::3]:
                    self.check_answer(first, list(second), house)
            for second in search.rows(5)[::11]:
                self.check_answer((2, 4, 1, 5, 3), second, house)

    def test_long_rows(self):
        for house in HOUSES:
            for row in LONG_ROWS[:4]:
                goal, _ = drawn_walk(row, house, 10, house.number)
                self.check_answer(row, goal, house)
                self.check_answer(row, shuffled(row, 3), house)

    def test_answers_belong_to_the_caller(self):
        first, second = list(FIRST), list(SECOND)
        paper = answer(first, second, HOUSE)
        first.clear()
        self.check_kinds([paper.first, paper.second, paper.places], [FIRST, SECOND, PLACES])
        paper.places.append(0)
        self.assertIs(paper.holds(), False)
        self.check_kinds(answer(FIRST, SECOND, HOUSE).places, PLACES)

    def test_every_entry_tells_its_content(self):
        for house in HOUSES:
            for first, second in (((3, 1, 2, 4), (2, 4, 3, 1)), ((4, 1, 2, 3), (1, 2, 4, 3))):
                one, other = seal(first, house)[1], seal(second, house)[1]
                for index in range(6):
                    left = one[index] if index < len(one) else "end"
                    right = other[index] if index < len(other) else "end"
                    self.assertIs(Parting(house, first, second, index, left, right).holds(), left != right)
                    self.assertIs(Parting(house, first, second, index, left, "other").holds(), False)

    def test_errors(self):
        for house in HOUSES:
            self.check_error(UnlikeStones([1, 2], (1, 3)), answer, [1, 2], (1, 3), house)
        self.check_error(InvalidHouse("l-h"), answer, [1, 2], (1, 3), "l-h")
        self.check_error(InvalidRow(None), answer, None, (1, 1), "l-h")
        for row in (list(range(41)), tuple(range(41))):
            self.check_error(InvalidRow(row), answer, row, row, HOUSE)
