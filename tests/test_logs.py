"""Logs: lines, houses that fit, wrong lines, and what a log foretells [48] to [50]."""

import random

from millbrook.errors import InvalidAnswer, InvalidHouse, InvalidNumber, InvalidPlace, InvalidRow, TooMany
from millbrook.houses import House
from millbrook.logs import Log
from tests import plain, support
from tests.support import LONG_ROWS, MillTest, shuffled

HOUSES = House.every()
TEXTS = [house.text for house in HOUSES]


def log_of(*lines):
    """A log of these lines."""
    log = Log()
    for line in lines:
        log.note(*line)
    return log


def fits(line, text):
    """Tells whether a line fits the house with this text [48]."""
    row, place, done = line
    return plain.is_free(row, place, text) == done


def wrong(lines, text):
    """The indexes of the lines that do not fit the house with this text [49]."""
    return [index for index, line in enumerate(lines) if not fits(line, text)]


def is_finer(one, other):
    """Tells whether the house with the one text is finer than that with the other one."""
    return plain.kinds_in(one) <= plain.kinds_in(other)


def foretold(texts, row, place):
    """What the houses with these texts foretell [50]."""
    answers = {plain.is_free(row, place, text) for text in texts}
    return {(): "none", (True,): "free", (False,): "barred"}.get(tuple(answers), "open")


def drawn_lines(source, count, most, house=None, lies=0.0):
    """Drawn lines on rows of at most so many stones; those of a house are true but for some lies."""
    lines = []
    for _ in range(count):
        row = source.sample(range(-50, 50), source.randint(2, most))
        place = source.randrange(len(row) - 1)
        done = source.random() < 0.7
        if house is not None:
            done = plain.is_free(row, place, house) != (source.random() < lies)
        lines.append((tuple(row), place, done))
    return lines


class Lines(MillTest):

    def test_lines_in_the_order_told(self):
        log = Log()
        self.check_kinds([len(log), log.lines()], [0, []])
        row = [3, 1, 2]
        log.note(row, 1, True)
        row.reverse()
        log.note((1, 2), 0, False)
        log.note((3, 1, 2), 1, True)
        self.check_kinds(log.lines(), [((3, 1, 2), 1, True), ((1, 2), 0, False), ((3, 1, 2), 1, True)])
        self.assertEqual(len(log), 3)

    def test_strike(self):
        for index in range(3):
            log = log_of(((1, 2, 3), 0, True), ((1, 2, 3), 1, True), ((2, 1, 3), 1, False))
            lines = log.lines()
            log.strike(index)
            self.assertEqual(log.lines(), lines[:index] + lines[index + 1:])
            self.assertEqual(log.fitting(), log_of(*log.lines()).fitting())
        for bad in support.NOT_INTEGERS + (-1, 2, -3, 10**5000):
            self.check_error(InvalidNumber(bad), log.strike, bad)
        log.strike(1)
        log.strike(0)
        for bad in (0, -1, 1):
            self.check_error(InvalidNumber(bad), log.strike, bad)
        self.assertEqual(len(log), 0)

    def test_two_hundred_lines(self):
        log = Log()
        for count in range(200):
            self.assertEqual(len(log), count)
            log.note((1, 2, 3), count % 2, count % 2 == 0)
        self.check_error(TooMany(200, 201), log.note, (1, 2, 3), 0, True)
        self.check_error(InvalidAnswer(1), log.note, (1, 2, 3), 0, 1)
        self.assertEqual(len(log), 200)
        log.strike(199)
        log.note((2, 1), 0, False)
        self.check_kinds(log.lines()[199], ((2, 1), 0, False))
        self.check_error(TooMany(200, 201), log.note, (2, 1), 0, False)

    def test_answers(self):
        log = Log()
        for bad in (1, 0, None, 1.0, 0.0, "True", "", [], support.Anything(), 2, -1):
            self.check_error(InvalidAnswer(bad), log.note, (1, 2, 3), 0, bad)
        self.assertEqual(len(log), 0)

    def test_order_of_the_checks(self):
        log = Log()
        self.check_error(InvalidRow([1, 1]), log.note, [1, 1], 5, None)
        self.check_error(InvalidPlace(2), log.note, [1, 2, 3], 2, None)
        for row in ((), (5,), [7]):
            self.check_error(InvalidPlace(0), log.note, row, 0, None)
        self.check_error(InvalidPlace(True), log.foretold, [1, 2, 3], True)
        self.assertEqual(log.lines(), [])

    def test_twins(self):
        log = log_of(((1, 2, 3), 1, True))
        twin = log.twin()
        self.assertIsInstance(twin, Log)
        twin.note((2, 1, 3), 1, False)
        self.assertEqual([len(log), len(twin)], [1, 2])
        self.assertEqual(log.fitting(), log_of(((1, 2, 3), 1, True)).fitting())
        log.strike(0)
        self.check_kinds(twin.lines(), [((1, 2, 3), 1, True), ((2, 1, 3), 1, False)])
        self.assertEqual([twin.least(), log.least()], [["l-"], [text for text in TEXTS if len(text) == 2]])

    def test_returned_lists(self):
        log = log_of(((1, 2, 3), 1, True), ((2, 1, 3), 1, False))
        lists = [log.lines(), log.wrong_lines(House("b-")), log.fitting(), log.least(), log.least_wrong()[1],
                 log.culprits()]
        copies = [list(values) for values in lists]
        log.note((3, 2, 1), 0, True)
        self.assertEqual(lists, copies)
        before = log.lines()
        for values in lists:
            values.clear()
        self.assertEqual(log.lines(), before)
        self.assertEqual(log.fitting(), log_of(*before).fitting())


class Fitting(MillTest):

    def check_log(self, log):
        """All that the log tells, against the 63 houses one by one."""
        lines = log.lines()
        told = {text: wrong(lines, text) for text in TEXTS}
        fit = [text for text in TEXTS if not told[text]]
        for house in HOUSES:
            self.check_kinds(log.wrong_lines(house), told[house.text])
        self.check_kinds(log.fitting(), fit)
        for many in (0, 1, 2, 5, 200):
            self.check_kinds(log.fitting(wrong=many), [text for text in TEXTS if len(told[text]) <= many])
        greatest = [text for text in fit if all(is_finer(other, text) for other in fit)]
        self.check_kinds(log.greatest(), greatest[0] if fit else None)
        self.check_kinds(log.least(), [text for text in fit
                                       if not any(other != text and is_finer(other, text) for other in fit)])
        fewest = min(len(indexes) for indexes in told.values())
        reach = [text for text in TEXTS if len(told[text]) == fewest]
        self.check_kinds(log.least_wrong(), (fewest, reach))
        self.check_kinds(log.culprits(), [index for index in range(len(lines))
                                          if not any(fits(lines[index], text) for text in reach)])
        for row, place in (((1, 2, 3), 0), ((3, 1, 2), 1), ((1, 2), 0), ((4, 2, 5, 1, 3), 2), ((2, 4, 3, 1), 1)):
            self.check_kinds(log.foretold(row, place), foretold(fit, row, place))

    def test_an_empty_log(self):
        log = Log()
        self.check_log(log)
        self.check_kinds([log.greatest(), log.least_wrong(), log.culprits()], ["lbh-lbh", (0, TEXTS), []])
        self.check_kinds(log.foretold((1, 2), 0), "barred")
        self.check_kinds(log.foretold((1, 2, 3), 0), "open")
        self.check_kinds(log.foretold(shuffled(range(40), 17), 20), "open")

    def test_logs_that_no_house_fits(self):
        log = log_of(((1, 2), 0, True))
        self.check_log(log)
        self.check_kinds([log.greatest(), log.least(), log.fitting(), log.foretold((1, 2, 3), 0)],
                         [None, [], [], "none"])
        self.check_kinds([log.least_wrong(), log.culprits()], [(1, TEXTS), [0]])
        self.check_log(log_of(((1, 2, 3), 1, True), ((1, 3, 2), 1, False), ((3, 2, 1), 1, True)))

    def test_logs_that_all_houses_fit(self):
        log = log_of(((1, 2), 0, False), ((2, 1), 0, False))
        self.check_log(log)
        self.assertEqual(log.fitting(), TEXTS)

    def test_logs_that_one_house_fits(self):
        for house in HOUSES:
            row_of_kind = {"l-": ((1, 2, 3), 1), "b-": ((2, 1, 3), 1), "h-": ((3, 1, 2), 1),
                           "-l": ((2, 3, 1), 0), "-b": ((1, 3, 2), 0), "-h": ((1, 2, 3), 0)}
            log = log_of(*[(*row_of_kind[kind], kind in house) for kind in House.KINDS])
            self.assertEqual(log.fitting(), [house.text])
            self.assertEqual([log.greatest(), log.least()], [house.text, [house.text]])
            self.check_log(log)
            for row, place in (((2, 4, 1, 3), 1), ((4, 3, 2, 1), 0)):
                expected = "free" if plain.is_free(row, place, house.text) else "barred"
                self.assertEqual(log.foretold(row, place), expected)

    def test_a_culprit(self):
        lines = [((1, 2, 3), 1, True)] * 3 + [((1, 2, 3), 1, False)]
        log = log_of(*lines)
        self.assertEqual(log.culprits(), [3])
        self.assertEqual(log.least_wrong()[0], 1)
        self.check_log(log)
        log = log_of(((1, 2, 3), 1, True), ((1, 2, 3), 1, False))
        self.check_kinds([log.least_wrong(), log.culprits()], [(1, TEXTS), []])

    def test_two_stones_are_never_done(self):
        log = log_of(((1, 2), 0, True), ((1, 2, 3), 1, True))
        self.assertEqual(log.culprits(), [0])
        self.check_log(log)

    def test_drawn_logs(self):
        source = random.Random(48)
        for count in (1, 2, 3, 5, 9):
            for most in (3, 4, 8):
                self.check_log(log_of(*drawn_lines(source, count, most)))

    def test_drawn_logs_of_a_house(self):
        source = random.Random(49)
        for house in HOUSES[::5]:
            for count, lies in ((3, 0.0), (12, 0.0), (12, 0.2), (25, 0.4)):
                log = log_of(*drawn_lines(source, count, 6, house.text, lies))
                self.check_log(log)
                if lies == 0.0:
                    self.assertIn(house.text, log.fitting())

    def test_long_logs_of_long_rows(self):
        lines = [(row, place, plain.is_free(row, place, "lb-h")) for row in LONG_ROWS for place in range(39)]
        self.check_log(log_of(*lines[:195], *lines[:5]))

    def test_a_log_after_strikes(self):
        source = random.Random(50)
        log = log_of(*drawn_lines(source, 20, 4))
        for index in (0, 18, 7, 3):
            log.strike(index)
            self.check_log(log)

    def test_wrong(self):
        log = log_of(((1, 2, 3), 1, True), ((1, 2), 0, True))
        self.check_kinds([log.fitting(wrong=2), log.fitting(wrong=200)], [TEXTS, TEXTS])
        self.check_kinds(log.fitting(wrong=0), [])
        for bad in support.NOT_INTEGERS + (-1, 201, 10**5000):
            self.check_error(InvalidNumber(bad), log.fitting, wrong=bad)
        with self.assertRaises(TypeError):
            log.fitting(1)

    def test_houses(self):
        log = Log()
        for bad in support.not_houses():
            self.check_error(InvalidHouse(bad), log.wrong_lines, bad)
