"""Probes of kinds, the best probe of a log, and houses found by probes [51], [52]."""

from itertools import combinations, permutations

from millbrook.changes import is_free, kinds_at
from millbrook.errors import InvalidAnswer, InvalidKinds, InvalidLog
from millbrook.houses import House
from millbrook.logs import Log
from millbrook.probes import best_probe, find_house, probe
from tests import plain
from tests.support import MillTest
from tests.wrong import A_LOG, A_SET_OF_KINDS, AN_ANSWER

HOUSES = House.every()
KINDS = House.KINDS
SETS = [kinds for count in range(7) for kinds in combinations(KINDS, count)]


def log_of(*lines):
    """A log of these lines."""
    log = Log()
    for line in lines:
        log.note(*line)
    return log


def probe_by_words(kinds):
    """The probe of a set of kinds, put together as the document says it [51]."""
    stones = [kind for kind in ("l-", "-l") if kind in kinds] + ["x"]
    stones += [kind for kind in ("b-", "-b") if kind in kinds] + ["y"]
    stones += [kind for kind in ("h-", "-h") if kind in kinds]
    before = [kind for kind in ("l-", "b-", "h-") if kind in kinds]
    behind = [kind for kind in ("-l", "-b", "-h") if kind in kinds]
    return tuple(1 + stones.index(stone) for stone in before + ["x", "y"] + behind), len(before)


def best_by_words(texts):
    """The best probe for the houses with these texts [52]."""
    best = None
    for house in HOUSES:
        common = sum(1 for text in texts if plain.kinds_in(text) & set(house.named()))
        greater = max(common, len(texts) - common)
        if best is None or greater < best[0]:
            best = greater, house
    return probe_by_words(best[1].named())


class Probes(MillTest):

    def test_each_set_of_kinds_in_any_order(self):
        self.assertEqual(len(SETS), 64)
        for kinds in SETS:
            expected = probe_by_words(kinds)
            for order in list(permutations(kinds))[::1 if len(kinds) < 5 else 37]:
                self.check_kinds(probe(list(order)), expected)
                self.check_kinds(probe(order), expected)

    def test_what_a_probe_has(self):
        for kinds in SETS:
            row, place = probe(kinds)
            self.assertEqual(sorted(row), list(range(1, len(kinds) + 3)))
            self.assertLess(row[place], row[place + 1])
            self.assertEqual(kinds_at(row, place), list(kinds))
            third = [plain.kind_of(row, place, index) for index in range(len(row)) if index not in (place, place + 1)]
            self.assertEqual(third, list(kinds))

    def test_some_probes(self):
        for kinds, expected in (((), ((1, 2), 0)), (("l-",), ((1, 2, 3), 1)), (("-l",), ((2, 3, 1), 0)),
                                (("b-",), ((2, 1, 3), 1)), (("-b",), ((1, 3, 2), 0)), (("h-",), ((3, 1, 2), 1)),
                                (("-h",), ((1, 2, 3), 0)), (("l-", "-h"), ((1, 2, 3, 4), 1)),
                                (("l-", "-l"), ((1, 3, 4, 2), 1)), (KINDS, ((1, 4, 7, 3, 6, 2, 5, 8), 3))):
            self.check_kinds(probe(kinds), expected)

    def test_what_is_no_list_of_different_kinds(self):
        for bad in A_SET_OF_KINDS[1]:
            self.check_error(InvalidKinds(bad), probe, bad)

    def test_lists_stay_as_they_were(self):
        kinds = ["-h", "b-", "l-"]
        probe(kinds)
        self.assertEqual(kinds, ["-h", "b-", "l-"])


class BestProbe(MillTest):

    def test_an_empty_log(self):
        self.check_kinds(best_probe(Log()), best_by_words([house.text for house in HOUSES]))
        self.check_kinds(best_probe(Log()), probe(["l-"]))

    def test_logs_that_few_houses_fit(self):
        none = log_of(((1, 2), 0, True))
        one = log_of(*[(*probe([kind]), kind in House("l-h")) for kind in KINDS])
        two = log_of(*[(*probe([kind]), kind in House("l-h")) for kind in KINDS[1:]])
        self.assertEqual([len(log.fitting()) for log in (none, one, two)], [0, 1, 2])
        self.check_kinds([best_probe(none), best_probe(one)], [None, None])
        self.check_kinds(best_probe(two), probe(["l-"]))

    def test_logs_of_every_house_along_the_best_probes(self):
        for house in HOUSES:
            log = Log()
            for _ in range(63):
                fit = log.fitting()
                self.assertIn(house.text, fit)
                found = best_probe(log)
                if len(fit) == 1:
                    break
                self.check_kinds(found, best_by_words(fit))
                log.note(*found, is_free(*found, house))
                self.assertLess(len(log.fitting()), len(fit))
            self.assertIs(found, None)
            self.assertEqual(log.fitting(), [house.text])

    def test_logs_of_some_lines(self):
        rows = ((3, 1, 4, 2), (2, 4, 1, 3), (1, 2, 3, 4, 5), (5, 3, 1, 2, 4))
        for row in rows:
            for place in range(len(row) - 1):
                for done in (True, False):
                    for other in rows:
                        log = log_of((row, place, done), (other, 1, not done))
                        expected = best_by_words(log.fitting()) if len(log.fitting()) > 1 else None
                        self.check_kinds(best_probe(log), expected)

    def test_ties_go_to_the_least_number(self):
        kinds = House("lb-").named()
        log = log_of(*[(*probe([kind]), False) for kind in KINDS if kind not in kinds])
        self.assertEqual(log.fitting(), ["l-", "b-", "lb-"])
        self.check_kinds(best_probe(log), probe(["l-"]))

    def test_what_is_no_log(self):
        for bad in A_LOG[1]:
            self.check_error(InvalidLog(bad), best_probe, bad)

    def test_the_log_stays_as_it_was(self):
        log = log_of(((1, 2, 3), 1, True))
        best_probe(log)
        self.assertEqual(log.lines(), [((1, 2, 3), 1, True)])


class FindHouse(MillTest):

    def test_each_house(self):
        for house in HOUSES:
            asked = []

            def ask(*told, **words):
                asked.append((told, words))
                return is_free(*told, house)

            found = find_house(ask)
            self.assertIsInstance(found, House)
            self.assertEqual(found, house)
            self.assertEqual(asked, [(probe([kind]), {}) for kind in KINDS])
            for (row, place), _ in asked:
                self.check_kinds([row, place], list(probe(kinds_at(row, place))))

    def test_no_kind(self):
        self.assertIs(find_house(lambda row, place: False), None)

    def test_an_answer_that_is_none(self):
        for bad in AN_ANSWER[1]:
            for at in range(6):
                calls = []

                def ask(row, place):
                    calls.append(row)
                    return bad if len(calls) == at + 1 else len(calls) % 2 == 0

                self.check_error(InvalidAnswer(bad), find_house, ask)
                self.assertEqual(len(calls), at + 1)

    def test_errors_of_the_function_itself_go_on(self):
        def ask(row, place):
            raise KeyError(row)
        with self.assertRaises(KeyError):
            find_house(ask)

    def test_fewer_than_six_answers_cannot_tell_all_houses_apart(self):
        self.assertGreater(len(HOUSES), 2**5)
