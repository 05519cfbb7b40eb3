"""Ledgers: names and lines, what follows from them, and reasons [54] to [57]."""

import random
from itertools import combinations

from millbrook.errors import Conflict, InvalidAnswer, InvalidHouse, InvalidName, InvalidNumber, InvalidRow, MillError
from millbrook.errors import NameThere, NoName, TooMany, UnlikeStones
from millbrook.houses import House
from millbrook.ledgers import Ledger
from millbrook.seals import comes
from tests import plain, search, support
from tests.support import LONG_ROWS, MillTest
from tests.wrong import A_NAME, NOT_NAMES

HOUSES = House.every()
TEXTS = [house.text for house in HOUSES]
OF_TEXT = {house.text: house for house in HOUSES}
KINDS = {text: plain.kinds_in(text) for text in TEXTS}
COARSER = {text: [other for other in TEXTS if KINDS[text] <= KINDS[other]] for text in TEXTS}


def ledger_of(names, *lines):
    """A ledger with these names, given with their rows, and these lines, given with the texts of their houses."""
    ledger = Ledger()
    for name, row in names.items():
        ledger.add_name(name, row)
    for text, one, other, same in lines:
        ledger.tell(House(text), one, other, same)
    return ledger


class ByHand:
    """The rules of [55], applied by hand to all houses for names with rows and lines with texts of houses."""

    def __init__(self, names, lines):
        self.names, self.lines = names, lines
        self.groups = {text: self.groups_under(text) for text in TEXTS}
        self.splits = {text: self.splits_under(text) for text in TEXTS}
        self.parted = {text: {pair for split in self.splits[text] for pair in self.parted_by(text, split)}
                       for text in TEXTS}

    def bound(self):
        """The pairs of bound names."""
        return combinations([name for name, row in self.names.items() if row is not None], 2)

    def groups_under(self, text):
        """For each name its group as a set."""
        links = [(one, other) for told, one, other, same in self.lines if same and KINDS[told] <= KINDS[text]]
        links += [pair for pair in self.bound()
                  if comes(self.names[pair[0]], self.names[pair[1]], OF_TEXT[text])]
        groups = {name: {name} for name in self.names}
        for one, other in links:
            union = groups[one] | groups[other]
            for name in union:
                groups[name] = union
        return groups

    def splits_under(self, text):
        """The pairs of names that are split."""
        splits = [(one, other) for told, one, other, same in self.lines if not same and KINDS[text] <= KINDS[told]]
        return splits + [pair for pair in self.bound()
                         if not comes(self.names[pair[0]], self.names[pair[1]], OF_TEXT[text])]

    def parted_by(self, text, split):
        """The pairs of a name in the group of the one and a name in the group of the other of two split names."""
        one, other = split
        pairs = [(a, b) for a in self.groups[text][one] for b in self.groups[text][other]]
        return pairs + [(b, a) for a, b in pairs]

    def is_torn(self):
        """Tells whether some two names of one group under some house are split under it."""
        return any(other in self.groups[text][one] for text in TEXTS for one, other in self.splits[text])

    def standing(self, text, one, other):
        """The standing of two names."""
        if other in self.groups[text][one]:
            return "same"
        return "apart" if any((one, other) in self.parted[coarser] for coarser in COARSER[text]) else "open"


class Names(MillTest):

    def test_names_of_each_length(self):
        ledger = Ledger()
        for name in ("a", "z9", "a" * 20, "abcdefghijklmnopqrst", "u0123456789vwxyz"):
            ledger.add_name(name)
        self.check_kinds(ledger.names(), sorted(("a", "z9", "a" * 20, "abcdefghijklmnopqrst", "u0123456789vwxyz")))

    def test_what_is_no_name(self):
        ledger = ledger_of({"a": None, "b": (1, 2)})
        for bad in NOT_NAMES:
            self.check_error(InvalidName(bad), ledger.add_name, bad)
            self.check_error(InvalidName(bad), ledger.add_name, bad, [1, 1])
            for function in (ledger.row_of,):
                self.check_error(NoName(bad), function, bad)
            for function in (ledger.finest, ledger.coarsest_apart):
                self.check_error(NoName(bad), function, bad, "c")
                self.check_error(NoName(bad), function, "a", bad)
            for function in (ledger.standing, ledger.reason):
                self.check_error(NoName(bad), function, HOUSES[0], bad, "c")
                self.check_error(NoName(bad), function, HOUSES[0], "a", bad)
        self.check_error(NoName("c"), ledger.tell, HOUSES[0], "c", "d", None)
        self.check_error(NoName("d"), ledger.tell, HOUSES[0], "b", "d", None)
        self.check_error(InvalidHouse("l-"), ledger.tell, "l-", "d", "d", None)
        self.assertEqual(ledger.names(), ["a", "b"])

    def test_rows(self):
        row = [3, 1, 2]
        ledger = ledger_of({"b": row, "a": None, "c": (1, 2, 3)})
        row.clear()
        self.check_kinds([ledger.names(), ledger.row_of("a"), ledger.row_of("b"), ledger.row_of("c")],
                         [["a", "b", "c"], None, (3, 1, 2), (1, 2, 3)])
        for bad in support.NOT_ROWS:
            if bad is not None:
                self.check_error(InvalidRow(bad), ledger.add_name, "a", bad)
                self.check_error(InvalidRow(bad), ledger.add_name, "d", row=bad)

    def test_names_that_are_there(self):
        ledger = ledger_of({"a": None, "b": (1, 2)})
        for name in ("a", "b"):
            for row in (None, [1, 2], (1, 3), (2, 1)):
                self.check_error(NameThere(name), ledger.add_name, name, row)
        self.assertIs(ledger.row_of("a"), None)

    def test_unlike_stones(self):
        ledger = ledger_of({"a": None, "c": [2, 1], "b": (1, 2)})
        for row in ((), [1], (1, 3), [1, 2, 3], tuple(range(40))):
            self.check_error(UnlikeStones((2, 1), row), ledger.add_name, "d", row)
        self.assertEqual(ledger.names(), ["a", "b", "c"])

    def test_twelve_names(self):
        ledger = ledger_of({f"n{index}": (1, 2) if index == 5 else None for index in range(12)})
        self.check_error(TooMany(12, 13), ledger.add_name, "a")
        self.check_error(TooMany(12, 13), ledger.add_name, "a", [2, 1])
        self.check_error(NameThere("n3"), ledger.add_name, "n3")
        self.check_error(UnlikeStones((1, 2), [3]), ledger.add_name, "a", [3])
        self.check_error(InvalidName("A"), ledger.add_name, "A")
        self.assertEqual(len(ledger.names()), 12)

    def test_rows_of_any_stones_where_no_name_is_bound(self):
        for row in ((), (5,), LONG_ROWS[4]):
            ledger = ledger_of({"a": None, "b": None}, ("l-", "a", "b", False))
            ledger.add_name("c", list(row))
            self.check_kinds(ledger.row_of("c"), row)


class Lines(MillTest):

    def test_lines_in_the_order_told(self):
        ledger = ledger_of({"a": None, "b": None, "c": None}, ("l-h", "b", "a", True), ("b-", "a", "c", False),
                           ("l-h", "b", "a", True), ("-b", "c", "c", True))
        self.check_kinds(ledger.lines(), [("l-h", "b", "a", True), ("b-", "a", "c", False), ("l-h", "b", "a", True),
                                          ("-b", "c", "c", True)])
        self.assertEqual([len(ledger), len(Ledger())], [4, 0])

    def test_strike(self):
        lines = [("l-", "a", "b", True), ("b-", "b", "c", True), ("lbh-lbh", "a", "d", False)]
        for index in range(3):
            ledger = ledger_of({"a": None, "b": None, "c": None, "d": None}, *lines)
            ledger.strike(index)
            self.check_kinds(ledger.lines(), lines[:index] + lines[index + 1:])
            self.assertEqual(ledger.standing(House("lb-"), "a", "c"), "same" if index == 2 else "open")
        ledger = ledger_of({"a": None, "b": None, "c": None, "d": None}, *lines)
        for bad in support.NOT_INTEGERS + (-1, 3, 10**5000):
            self.check_error(InvalidNumber(bad), ledger.strike, bad)
        ledger.strike(0)
        ledger.strike(1)
        ledger.strike(0)
        self.check_error(InvalidNumber(0), ledger.strike, 0)
        self.assertEqual(ledger.lines(), [])

    def test_a_line_that_was_struck_is_no_conflict_any_more(self):
        ledger = ledger_of({"a": None, "b": None}, ("l-", "a", "b", True))
        self.check_error(Conflict(House("l-h"), "a", "b"), ledger.tell, House("l-h"), "a", "b", False)
        ledger.strike(0)
        ledger.tell(House("l-h"), "a", "b", False)
        self.assertEqual(ledger.standing(House("l-"), "b", "a"), "apart")

    def test_sixty_lines(self):
        ledger = ledger_of({"a": None, "b": None})
        for count in range(60):
            self.assertEqual(len(ledger), count)
            ledger.tell(HOUSES[count], "a", "b", True)
        self.check_error(TooMany(60, 61), ledger.tell, HOUSES[0], "a", "b", True)
        self.check_error(TooMany(60, 61), ledger.tell, HOUSES[0], "a", "a", False)
        self.check_error(InvalidAnswer(0), ledger.tell, HOUSES[0], "a", "b", 0)
        self.check_error(NoName("c"), ledger.tell, HOUSES[0], "a", "c", 0)
        self.assertEqual(len(ledger), 60)
        ledger.strike(59)
        self.check_error(Conflict(HOUSES[0], "a", "a"), ledger.tell, HOUSES[0], "a", "a", False)
        ledger.tell(HOUSES[62], "b", "a", True)
        self.assertEqual(ledger.lines()[59], ("lbh-lbh", "b", "a", True))

    def test_a_name_and_itself(self):
        ledger = ledger_of({"a": None, "b": (1, 2, 3)})
        for house in HOUSES:
            for name in ("a", "b"):
                self.check_error(Conflict(house, name, name), ledger.tell, house, name, name, False)
                self.check_kinds([ledger.standing(house, name, name), ledger.reason(house, name, name)],
                                 ["same", (house.text, [])])
            self.check_kinds(ledger.standing(house, "a", "b"), "open")
        singles = [text for text in TEXTS if len(text) == 2]
        self.check_kinds([ledger.finest("a", "a"), ledger.coarsest_apart("b", "b")], [singles, []])
        ledger.tell(HOUSE, "a", "a", True)
        self.check_kinds([len(ledger), ledger.standing(HOUSE, "a", "b")], [1, "open"])

    def test_answers(self):
        ledger = ledger_of({"a": None, "b": None})
        for bad in (1, 0, None, 1.0, "same", "True", [], support.Anything()):
            self.check_error(InvalidAnswer(bad), ledger.tell, HOUSE, "a", "b", bad)
        self.assertEqual(len(ledger), 0)


HOUSE = House("l-h")


class Conflicts(MillTest):

    def test_lines_against_rows(self):
        names = {"a": (1, 2, 3), "b": (1, 3, 2), "c": (2, 1, 3)}
        for house in HOUSES:
            for one, other in combinations(names, 2):
                joined = comes(names[one], names[other], house)
                ledger = ledger_of(names)
                self.check_error(Conflict(house, one, other), ledger.tell, house, one, other, not joined)
                self.assertEqual(len(ledger), 0)
                ledger.tell(house, other, one, joined)
                self.assertEqual(len(ledger), 1)

    def test_conflicts_over_chains(self):
        ledger = ledger_of({"a": (1, 2, 3), "b": None, "c": None, "d": (3, 2, 1)}, ("l-", "a", "b", True),
                           ("-h", "b", "c", True))
        for text in TEXTS:
            joined = comes((1, 2, 3), (3, 2, 1), House(text) | House("l-h"))
            found = ledger.twin()
            if joined:
                found.tell(House(text), "c", "d", True)
            else:
                self.check_error(Conflict(House(text), "c", "d"), found.tell, House(text), "c", "d", True)

    def test_the_error_keeps_the_arguments_as_passed(self):
        ledger = ledger_of({"a": None, "b": None}, ("b-", "a", "b", True))
        house = House("b-h")
        with self.assertRaises(Conflict) as caught:
            ledger.tell(house, "b", "a", False)
        self.assertIs(caught.exception.house, house)
        self.assertEqual((caught.exception.one, caught.exception.other), ("b", "a"))


class Searched(MillTest):
    """Drawn ledgers against the rules of [55], applied by hand."""

    def drawn_names(self, source, count, stones, share):
        """Drawn names, of which about a share is bound to rows of so many stones."""
        return {f"n{index}": source.choice(search.rows(stones)) if source.random() < share else None
                for index in range(count)}

    def tell_drawn(self, ledger, names, source, tries):
        """Tells drawn lines; each is a conflict if it would tear the ledger, and then is not taken."""
        lines = []
        for _ in range(tries):
            line = (source.choice(TEXTS), *source.choices(list(names), k=2), source.random() < 0.5)
            if ByHand(names, lines + [line]).is_torn():
                with self.assertRaises(Conflict):
                    ledger.tell(OF_TEXT[line[0]], *line[1:])
            else:
                ledger.tell(OF_TEXT[line[0]], *line[1:])
                lines.append(line)
            self.assertEqual(ledger.lines(), lines)
        return lines

    def check_ledger(self, ledger, names, lines):
        """Standings, groups, finest and coarsest houses, and reasons."""
        told = ByHand(names, lines)
        self.assertFalse(told.is_torn())
        pairs = [(one, other) for one in names for other in names]
        for one, other in pairs:
            standings = {text: told.standing(text, one, other) for text in TEXTS}
            for house in HOUSES:
                self.assertEqual(ledger.standing(house, one, other), standings[house.text])
                self.check_reason(ledger, house, one, other, standings[house.text])
            same = [text for text in TEXTS if standings[text] == "same"]
            apart = [text for text in TEXTS if standings[text] == "apart"]
            self.check_kinds(ledger.finest(one, other), [
                text for text in same if not any(other_text != text and text in COARSER[other_text] for other_text in same)])
            self.check_kinds(ledger.coarsest_apart(one, other), [
                text for text in apart if not any(coarser in apart for coarser in COARSER[text] if coarser != text)])
            self.check_facts(standings)
        for house in HOUSES:
            groups = {tuple(sorted(group)) for group in told.groups[house.text].values()}
            self.check_kinds(ledger.groups(house), sorted(list(group) for group in groups))

    def check_facts(self, standings):
        """What is the same stays so under coarser houses, and what is apart under finer ones [56]."""
        for text in TEXTS:
            for coarser in COARSER[text]:
                if standings[text] == "same":
                    self.assertEqual(standings[coarser], "same")
                if standings[coarser] == "apart":
                    self.assertEqual(standings[text], "apart")

    def check_reason(self, ledger, house, one, other, standing):
        """Each step of the reason against its form [57]."""
        reason = ledger.reason(house, one, other)
        if standing == "open":
            self.assertIs(reason, None)
            return
        self.assertIs(type(reason), tuple)
        text, steps = reason
        self.assertIs(type(steps), list)
        self.assertLessEqual(len(steps), 30)
        if standing == "same":
            self.assertEqual(text, house.text)
        self.assertIn(text, COARSER[house.text])
        at = one
        for step in steps:
            self.assertIs(type(step), tuple)
            self.assertEqual(step[-2], at)
            self.check_step(ledger, text, step)
            at = step[-1]
        self.assertEqual(at, other)
        self.assertEqual(sum(step[0].startswith("split") for step in steps), int(standing == "apart"))
        if one == other:
            self.assertEqual(steps, [])

    def check_step(self, ledger, text, step):
        """One step of a reason with the house of this text."""
        word, names = step[0], set(step[-2:])
        if word in ("line", "split line"):
            self.assertEqual(len(step), 4)
            told, one, other, same = ledger.lines()[step[1]]
            self.assertEqual(({one, other}, same), (names, word == "line"))
            self.assertIn(*((text, COARSER[told]) if same else (told, COARSER[text])))
        else:
            self.assertIn(word, ("seal", "split seal"))
            self.assertEqual(len(step), 3)
            rows = [ledger.row_of(name) for name in step[-2:]]
            self.assertNotIn(None, rows)
            self.assertIs(comes(*rows, OF_TEXT[text]), word == "seal")

    def test_drawn_ledgers(self):
        source = random.Random(55)
        for count, stones, share, tries in ((1, 3, 1.0, 3), (2, 3, 0.5, 6), (3, 3, 0.5, 8), (4, 3, 0.3, 14),
                                            (4, 4, 0.5, 10), (5, 4, 0.0, 16), (5, 3, 0.6, 20), (6, 4, 0.3, 30)):
            names = self.drawn_names(source, count, stones, share)
            ledger = ledger_of(names)
            self.check_ledger(ledger, names, self.tell_drawn(ledger, names, source, tries))

    def test_ledgers_after_strikes(self):
        source = random.Random(57)
        names = self.drawn_names(source, 4, 4, 0.5)
        ledger = ledger_of(names)
        lines = self.tell_drawn(ledger, names, source, 15)
        while len(lines) > 1:
            index = source.randrange(len(lines))
            ledger.strike(index)
            del lines[index]
        self.check_ledger(ledger, names, lines)

    def test_the_order_of_the_lines_changes_no_standing(self):
        source = random.Random(56)
        for _ in range(6):
            names = self.drawn_names(source, 4, 4, 0.4)
            ledger = ledger_of(names)
            lines = self.tell_drawn(ledger, names, source, 10)
            source.shuffle(lines)
            other = ledger_of(names, *lines)
            self.assertEqual(len(other), len(ledger))
            for house in HOUSES:
                for pair in combinations(names, 2):
                    self.assertEqual(other.standing(house, *pair), ledger.standing(house, *pair))

    def test_names_that_are_added_behind_the_lines(self):
        source = random.Random(58)
        for _ in range(6):
            names = self.drawn_names(source, 4, 3, 0.6)
            ledger = ledger_of(names)
            lines = self.tell_drawn(ledger, names, source, 8)
            before = [ledger.standing(house, *pair) for house in HOUSES for pair in combinations(names, 2)]
            more = {**names, "x": (2, 3, 1), "y": None}
            ledger.add_name("x", [2, 3, 1])
            ledger.add_name("y")
            after = [ledger.standing(house, *pair) for house in HOUSES for pair in combinations(names, 2)]
            self.assertEqual(after, before)
            self.check_ledger(ledger, more, lines)

    def test_where_all_names_are_bound_no_standing_is_open(self):
        names = {f"n{index}": row for index, row in enumerate(search.rows(4)[::7])}
        ledger = ledger_of(names)
        for house in HOUSES:
            for one, other in combinations(names, 2):
                expected = "same" if comes(names[one], names[other], house) else "apart"
                self.assertEqual(ledger.standing(house, one, other), expected)

    def test_short_rows(self):
        for names in ({"a": (), "b": (), "c": None}, {"a": (5,), "b": (5,)}, {"a": (1, 2), "b": (2, 1), "c": None}):
            lines = [("l-", "a", "c", True)] if "c" in names else []
            self.check_ledger(ledger_of(names, *lines), names, lines)

    def test_a_full_ledger(self):
        source = random.Random(60)
        rows = [LONG_ROWS[0], LONG_ROWS[0][::-1], LONG_ROWS[3], (1, 0) + LONG_ROWS[0][2:]]
        names = {f"n{index}": rows[index // 2] if index < 8 and index % 2 else None for index in range(12)}
        ledger = ledger_of(names)
        while len(ledger) < 60:
            try:
                ledger.tell(source.choice(HOUSES), *source.choices(list(names), k=2), source.random() < 0.3)
            except Conflict:
                pass
        told = ByHand(names, ledger.lines())
        for house in HOUSES[::5]:
            for one in names:
                for other in names:
                    standing = told.standing(house.text, one, other)
                    self.assertEqual(ledger.standing(house, one, other), standing)
                    self.check_reason(ledger, house, one, other, standing)

    def test_a_long_chain(self):
        names = {f"n{index}": None for index in range(12)}
        lines = [("l-", f"n{index}", f"n{index + 1}", True) for index in range(10)] + [("l-h", "n10", "n11", False)]
        ledger = ledger_of(names, *lines)
        house = House("l-")
        self.check_kinds(ledger.reason(house, "n0", "n10"), ("l-", [
            ("line", index, f"n{index}", f"n{index + 1}") for index in range(10)]))
        self.check_reason(ledger, house, "n11", "n0", "apart")
        self.assertEqual(ledger.groups(house), [sorted(f"n{index}" for index in range(11)), ["n11"]])


class Copies(MillTest):

    def state(self, ledger):
        """All that a ledger tells of its names and lines."""
        return ledger.names(), [ledger.row_of(name) for name in ledger.names()], ledger.lines()

    def test_twins(self):
        ledger = ledger_of({"a": (1, 2, 3), "b": None}, ("l-", "a", "b", True))
        before, twin = self.state(ledger), ledger.twin()
        self.assertIsInstance(twin, Ledger)
        self.assertEqual(self.state(twin), before)
        twin.add_name("c", (2, 1, 3))
        twin.tell(House("l-h"), "b", "c", True)
        self.assertEqual(self.state(ledger), before)
        changed = self.state(twin)
        ledger.strike(0)
        ledger.add_name("d")
        self.assertEqual(self.state(twin), changed)
        self.check_error(UnlikeStones((1, 2, 3), (1, 2)), twin.add_name, "e", (1, 2))
        self.assertEqual([twin.standing(House("l-"), "a", "b"), ledger.standing(House("l-"), "a", "b")],
                         ["same", "open"])

    def test_returned_lists(self):
        ledger = ledger_of({"a": (1, 2, 3), "b": None, "c": (1, 3, 2)}, ("l-", "a", "b", True))
        house = House("l-")
        lists = [ledger.names(), ledger.lines(), ledger.groups(house), ledger.reason(house, "b", "a")[1],
                 ledger.finest("a", "b"), ledger.coarsest_apart("a", "c")]
        copies = [list(values) for values in lists]
        ledger.add_name("d")
        ledger.tell(house, "a", "d", True)
        self.assertEqual(lists, copies)
        ledger.groups(house)[0].clear()
        for values in lists:
            values.clear()
        self.assertEqual(ledger.names(), ["a", "b", "c", "d"])
        self.assertEqual(ledger.groups(house)[0], ["a", "b", "c", "d"])
        self.assertEqual(ledger.reason(house, "b", "a"), ("l-", [("line", 0, "b", "a")]))

    def test_errors_change_nothing(self):
        ledger = ledger_of({"a": (1, 2, 3), "b": None}, ("l-", "a", "b", True))
        before = self.state(ledger)
        for function, *told in ((ledger.add_name, "a"), (ledger.add_name, "c", (1, 2)), (ledger.add_name, "C"),
                                (ledger.add_name, "c", [1, 1]), (ledger.tell, HOUSE, "a", "b", False),
                                (ledger.tell, HOUSE, "a", "a", False), (ledger.strike, 1), (ledger.row_of, "c")):
            with self.assertRaises(MillError):
                function(*told)
            self.assertEqual(self.state(ledger), before)

    def test_a_name_as_the_check_of_an_argument(self):
        self.assertEqual(A_NAME[0], InvalidName)
        ledger = Ledger()
        self.check_error(InvalidName(""), ledger.add_name, "", None)
        self.check_error(InvalidRow(0), ledger.add_name, "a", 0)
        self.assertEqual(ledger.names(), [])
