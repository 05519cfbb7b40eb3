"""Desks: changes, undo and redo, taking changes out, marks, several deeds at once, leading, reports [58] to [64]."""

import random

from millbrook.desks import Desk
from millbrook.errors import Apart, Barred, DeedRefused, Full, InvalidDeeds, InvalidHouse, InvalidName, InvalidNumber
from millbrook.errors import InvalidPlace, InvalidRow, MillError, NameThere, NoName, NothingToRedo, NothingToUndo
from millbrook.errors import UnlikeStones
from millbrook.houses import House
from millbrook.roads import road
from millbrook.seals import comes, seal
from tests import plain, support
from tests.support import LONG_ROWS, TOP, MillTest, drawn_walk, shuffled
from tests.wrong import NOT_NAMES, SOME_DEEDS

HOUSE = House("l-h")
ALL = House("lbh-lbh")
ROW = (1, 2, 3, 4)


class Refused(Exception):
    """A plain desk refuses what it is asked for."""


class PlainDesk:
    """A desk word by word: all histories are plain lists, and each row is made anew from the first one."""

    def __init__(self, row, text, limit=100):
        self.row, self.text, self.limit = tuple(row), text, limit
        self.history, self.before, self.behind, self.marks = [], [], [], {}

    def row_behind(self, history):
        """The row to which a history leads."""
        row = self.row
        for entry in history:
            row = plain.change(row, entry[0])
        return row

    def entry_at(self, row, place):
        """The entry of a change at the place, or None if it is barred [58]."""
        if not 0 <= place < len(row) - 1 or not plain.is_free(row, place, self.text):
            return None
        near = []
        for index, stone in enumerate(row):
            if index not in (place, place + 1) and plain.kind_of(row, place, index) in plain.kinds_in(self.text):
                gap = place - index - 1 if index < place else index - place - 2
                near.append((gap + 1, index > place, stone))
        return place, row[place], row[place + 1], min(near)[2]

    def enter(self, history):
        """One deed."""
        self.before.append(self.history)
        self.behind = []
        self.history = history

    def require(self, condition):
        """Refuses unless the condition holds."""
        if not condition:
            raise Refused

    def change(self, place):
        entry = self.entry_at(self.row_behind(self.history), place)
        self.require(entry is not None and len(self.history) < self.limit)
        self.enter(self.history + [entry])

    def undo(self):
        self.require(self.before)
        self.behind.append(self.history)
        self.history = self.before.pop()

    def redo(self):
        self.require(self.behind)
        self.before.append(self.history)
        self.history = self.behind.pop()

    def without(self, index):
        """The history without an entry, and the indexes of the later ones that go [60]."""
        kept, gone = self.history[:index], []
        for at, entry in list(enumerate(self.history))[index + 1:]:
            row = self.row_behind(kept)
            place = row.index(entry[1])
            again = self.entry_at(row, place) if row[place + 1:place + 2] == (entry[2],) else None
            if again is None:
                gone.append(at)
            else:
                kept = kept + [again]
        return kept, gone

    def drop(self, index):
        self.require(0 <= index < len(self.history))
        kept, gone = self.without(index)
        self.enter(kept)
        return gone

    def mark(self, name):
        self.require(name not in self.marks)
        self.marks[name] = self.history

    def unmark(self, name):
        self.require(name in self.marks)
        del self.marks[name]

    def go(self, name):
        self.require(name in self.marks)
        self.enter(self.marks[name])

    def lead(self, goal):
        row = self.row_behind(self.history)
        walk = road(row, goal, House(self.text))
        self.require(walk is not None and len(self.history) + len(walk) <= self.limit)
        history = self.history
        for place in walk:
            history = history + [self.entry_at(self.row_behind(history), place)]
        self.enter(history)
        return len(walk)


def told(desk):
    """All that a desk tells of itself without a change."""
    return desk.present, desk.history(), desk.marks(), desk.limit, desk.spare, desk.report()


def whole(desk):
    """All that a desk tells, also of its deeds to undo and redo, and of the histories of its marks."""
    found = [told(desk)]
    for word in ("undo", "redo"):
        twin = desk.twin()
        try:
            while True:
                getattr(twin, word)()
                found.append(told(twin))
        except (NothingToUndo, NothingToRedo):
            found.append(word)
    for name in desk.marks():
        twin = desk.twin()
        twin.go(name)
        found.append((name, twin.history()))
    return found


def desk_with_all():
    """A desk with a history, a mark, deeds to undo and deeds to redo."""
    desk = Desk(ROW, HOUSE, 20)
    desk.change(0)
    desk.change(2)
    desk.mark("m")
    desk.change(0)
    desk.lead(desk.present)
    desk.undo()
    desk.undo()
    return desk


class Making(MillTest):

    def test_an_empty_history(self):
        for row in ((), [5], [2, 1], (3, 1, 2), *LONG_ROWS):
            desk = Desk(row, HOUSE)
            self.check_kinds([desk.present, desk.history(), desk.limit, desk.spare, desk.marks(), desk.report()],
                             [tuple(row), [], 100, 100, [], ""])
            self.assertIs(desk.house, HOUSE)
            self.check_error(NothingToUndo(), desk.undo)
            self.check_error(NothingToRedo(), desk.redo)
            for index in (0, -1, 1):
                self.check_error(InvalidNumber(index), desk.drop, index)
                self.check_error(InvalidNumber(index), desk.blame, index)

    def test_errors(self):
        self.check_error(InvalidRow([1, 1]), Desk, [1, 1], None, None)
        self.check_error(InvalidHouse("l-h"), Desk, [1, 2], "l-h", None)
        for bad in support.NOT_INTEGERS + (-1, 1001, 10**5000):
            self.check_error(InvalidNumber(bad), Desk, [1, 2], HOUSE, bad)
            self.check_error(InvalidNumber(bad), Desk, [1, 2], HOUSE, limit=bad)
        for limit in (0, 1, 1000):
            self.assertEqual(Desk((), HOUSE, limit=limit).limit, limit)

    def test_a_row_that_the_caller_changes(self):
        row = [1, 2, 3]
        desk = Desk(row, HOUSE)
        row.clear()
        self.assertEqual(desk.present, (1, 2, 3))


class Changing(MillTest):

    def test_entries(self):
        desk = Desk((2, 4, 1, 3), ALL)
        desk.change(1)
        desk.change(0)
        desk.change(2)
        self.check_kinds(desk.history(), [(1, 4, 1, 2), (0, 2, 1, 4), (2, 4, 3, 2)])
        self.check_kinds(desk.present, (1, 2, 3, 4))

    def test_barred_and_invalid_places(self):
        desk = Desk((3, 2, 1), House("l-"))
        for place in (0, 1):
            self.check_error(Barred(place, 0), desk.change, place)
        for bad in support.NOT_INTEGERS + (-1, 2, 10**5000):
            self.check_error(InvalidPlace(bad), desk.change, bad)
        self.check_error(InvalidPlace(0), Desk((), ALL).change, 0)
        self.check_error(InvalidPlace(0), Desk([1], ALL).change, 0)
        self.check_error(Barred(0, 0), Desk([1, 2], ALL).change, 0)
        self.assertEqual(desk.history(), [])

    def test_limits(self):
        desk = Desk(ROW, HOUSE, 2)
        desk.change(0)
        self.assertEqual(desk.spare, 1)
        desk.change(0)
        self.assertEqual(desk.spare, 0)
        before = whole(desk)
        self.check_error(Full(2), desk.change, 0)
        self.check_error(InvalidPlace(3), desk.change, 3)
        self.assertEqual(whole(desk), before)
        desk.limit = 3
        desk.change(0)
        self.assertEqual(len(desk.history()), 3)

    def test_barred_comes_before_full(self):
        desk = Desk((3, 2, 1), HOUSE, 0)
        self.check_error(Barred(0, 0), desk.change, 0)
        desk = Desk((1, 2, 3), HOUSE, 0)
        self.check_error(Full(0), desk.change, 0)
        self.assertEqual(desk.spare, 0)

    def test_a_limit_below_the_length_of_the_history(self):
        desk = Desk(ROW, HOUSE, 1000)
        for _ in range(6):
            desk.change(0)
        desk.mark("m")
        desk.set_limit(4)
        self.check_kinds([desk.limit, desk.spare, len(desk.history())], [4, 0, 6])
        self.check_error(Full(4), desk.change, 0)
        self.check_error(Full(4), desk.lead, ROW)
        desk.undo()
        desk.redo()
        self.assertEqual(desk.drop(5), [])
        desk.go("m")
        self.assertEqual(len(desk.history()), 6)
        self.assertEqual([desk.drop(0), len(desk.history())], [[1], 4])
        self.check_error(Full(4), desk.change, 0)
        desk.lead(ROW)
        desk.set_limit(0)
        self.assertEqual([desk.limit, desk.spare], [0, 0])

    def test_assigning_the_limit(self):
        desk = Desk(ROW, HOUSE)
        for bad in support.NOT_INTEGERS + (-1, 1001, 10**5000):
            self.check_error(InvalidNumber(bad), desk.set_limit, bad)
            self.check_error(InvalidNumber(bad), setattr, desk, "limit", bad)
        self.assertEqual(desk.limit, 100)
        for limit in (0, 1000, 7):
            desk.limit = limit
            self.assertEqual([desk.limit, desk.spare], [limit, limit])
            self.assertIs(desk.set_limit(limit + 1 if limit < 1000 else 1), None)

    def test_properties_are_read_only(self):
        desk = Desk(ROW, HOUSE)
        for name in ("present", "spare"):
            with self.assertRaises(AttributeError):
                setattr(desk, name, 1)

    def test_undo_and_redo(self):
        desk = Desk(ROW, HOUSE)
        desk.change(0)
        desk.change(2)
        desk.undo()
        self.check_kinds([desk.present, desk.history()], [(2, 1, 3, 4), [(0, 1, 2, 3)]])
        desk.undo()
        self.check_kinds([desk.present, desk.history()], [ROW, []])
        self.check_error(NothingToUndo(), desk.undo)
        desk.redo()
        desk.redo()
        self.check_error(NothingToRedo(), desk.redo)
        self.assertEqual(desk.present, (2, 1, 4, 3))
        desk.undo()
        desk.change(1)
        self.check_error(NothingToRedo(), desk.redo)
        self.assertEqual(desk.present, (2, 3, 1, 4))

    def test_a_deed_that_fails_leaves_undone_deeds(self):
        desk = desk_with_all()
        before = whole(desk)
        self.assertIn("undo", before)
        for function, *values in ((desk.change, 9), (desk.drop, 2), (desk.go, "x"), (desk.lead, (1, 2)),
                                  (desk.lead, (4, 3, 2, 1)), (desk.mark, "m"), (desk.mark, "M"), (desk.unmark, "x"),
                                  (desk.set_limit, -1), (desk.run, [("undo",), ("go", "x")]), (desk.run, None),
                                  (desk.blame, -1)):
            with self.assertRaises(MillError):
                function(*values)
            self.assertEqual(whole(desk), before)

    def test_each_successful_call_is_one_deed(self):
        desk = Desk(ROW, HOUSE)
        desk.mark("m")
        desk.go("m")
        desk.lead(ROW)
        desk.undo()
        desk.undo()
        self.check_error(NothingToUndo(), desk.undo)
        desk.redo()
        desk.redo()
        self.check_error(NothingToRedo(), desk.redo)


class Dropping(MillTest):

    def test_entries_that_go(self):
        desk = Desk((1, 2, 3), ALL)
        for place in (0, 1, 0):
            desk.change(place)
        self.assertEqual(desk.history(), [(0, 1, 2, 3), (1, 1, 3, 2), (0, 2, 3, 1)])
        self.check_kinds(desk.blame(0), [1])
        self.check_kinds(desk.drop(0), [1])
        self.check_kinds([desk.history(), desk.present], [[(1, 2, 3, 1)], (1, 3, 2)])
        desk.undo()
        self.check_kinds([desk.blame(1), desk.blame(2)], [[2], []])

    def test_entries_that_stay_get_the_place_and_the_helper_of_the_moment(self):
        desk = Desk(ROW, HOUSE)
        desk.change(0)
        desk.change(2)
        self.check_kinds(desk.drop(0), [])
        self.check_kinds([desk.history(), desk.present], [[(2, 3, 4, 2)], (1, 2, 4, 3)])

    def test_a_barred_place_goes(self):
        for text, gone in (("lb-h", [1, 2]), ("lb-lh", [1])):
            desk = Desk((2, 3, 1), House(text))
            for place in (1, 0, 1):
                desk.change(place)
            self.assertEqual(desk.history(), [(1, 3, 1, 2), (0, 2, 1, 3), (1, 2, 3, 1)])
            self.check_kinds(desk.drop(0), gone)
            self.check_kinds(desk.history(), [] if len(gone) == 2 else [(0, 2, 3, 1)])

    def test_indexes(self):
        desk = desk_with_all()
        for bad in support.NOT_INTEGERS + (-1, 2, 10**5000):
            self.check_error(InvalidNumber(bad), desk.drop, bad)
            self.check_error(InvalidNumber(bad), desk.blame, bad)

    def test_blame_changes_nothing(self):
        desk = desk_with_all()
        before = whole(desk)
        for index in range(2):
            twin = desk.twin()
            self.assertEqual(desk.blame(index), twin.drop(index))
            self.assertEqual(whole(desk), before)


class Marks(MillTest):

    def test_marks(self):
        desk = Desk(ROW, HOUSE)
        desk.mark("start")
        desk.change(0)
        desk.mark("b")
        desk.change(2)
        self.check_kinds(desk.marks(), ["b", "start"])
        desk.go("b")
        self.check_kinds([desk.present, desk.history()], [(2, 1, 3, 4), [(0, 1, 2, 3)]])
        desk.go("start")
        self.assertEqual(desk.history(), [])
        desk.undo()
        desk.undo()
        self.assertEqual(len(desk.history()), 2)
        desk.unmark("b")
        self.check_error(NoName("b"), desk.go, "b")
        self.check_error(NoName("b"), desk.unmark, "b")
        self.check_kinds(desk.marks(), ["start"])

    def test_marks_stay_as_they_are(self):
        desk = Desk(ROW, HOUSE)
        desk.change(0)
        desk.change(2)
        desk.mark("m")
        desk.drop(0)
        desk.undo()
        desk.undo()
        desk.undo()
        self.check_kinds([desk.marks(), desk.history()], [["m"], []])
        desk.go("m")
        self.assertEqual(desk.history(), [(0, 1, 2, 3), (2, 3, 4, 1)])
        desk.change(0)
        desk.go("m")
        self.assertEqual(len(desk.history()), 2)

    def test_names(self):
        desk = Desk(ROW, HOUSE)
        for bad in NOT_NAMES:
            self.check_error(InvalidName(bad), desk.mark, bad)
            self.check_error(NoName(bad), desk.go, bad)
            self.check_error(NoName(bad), desk.unmark, bad)
        for name in ("a", "z9", "a" * 20):
            self.check_error(NoName(name), desk.go, name)
            desk.mark(name)
            self.check_error(NameThere(name), desk.mark, name)
        self.assertEqual(desk.marks(), ["a", "a" * 20, "z9"])

    def test_very_many_marks(self):
        desk = Desk(ROW, HOUSE)
        for index in range(2000):
            desk.mark(f"m{index}")
        self.assertEqual(len(desk.marks()), 2000)
        self.assertEqual(desk.marks(), sorted(desk.marks()))

    def test_marks_are_no_deeds(self):
        desk = desk_with_all()
        desk.mark("x")
        desk.unmark("m")
        desk.redo()
        desk.undo()
        self.assertEqual(desk.marks(), ["x"])


class Leading(MillTest):

    def test_the_changes_of_the_road(self):
        for text in ("l-h", "b-l", "lb-lb", "lh-lb", "lbh-lbh", "lbh-l"):
            house = House(text)
            for row in (shuffled(range(7), 3), (2, 4, 1, 3), LONG_ROWS[3][:12]):
                goal, _ = drawn_walk(row, house, 30, 7)
                walk = road(row, goal, house)
                desk = Desk(row, house, 1000)
                self.check_kinds(desk.lead(list(goal)), len(walk))
                self.check_kinds([desk.present, [entry[0] for entry in desk.history()]], [goal, walk])
                desk.undo()
                self.assertEqual([desk.present, desk.history()], [row, []])
                desk.redo()
                self.assertEqual(desk.lead(row), len(road(goal, row, house)))

    def test_errors_in_their_order(self):
        desk = Desk([1, 2, 3], HOUSE, 2)
        desk.change(0)
        desk.change(0)
        desk.limit = 1
        for bad in support.NOT_ROWS:
            self.check_error(InvalidRow(bad), desk.lead, bad)
        for goal in ((), [1, 2], (1, 2, 4), list(range(40))):
            self.check_error(UnlikeStones((1, 2, 3), goal), desk.lead, goal)
        for goal in ([3, 2, 1], (3, 1, 2)):
            self.check_error(Apart((1, 2, 3), goal), desk.lead, goal)
        for goal in ([1, 2, 3], (2, 1, 3)):
            self.check_error(Full(1), desk.lead, goal)
        desk.limit = 2
        self.check_error(Full(2), desk.lead, (2, 1, 3))
        self.assertEqual(desk.lead([1, 2, 3]), 0)

    def test_a_walk_that_just_fits(self):
        row, goal = (1, 2, 3, 4), (4, 3, 2, 1)
        self.check_error(Full(5), Desk(row, ALL, 5).lead, goal)
        desk = Desk(row, ALL, 6)
        self.assertEqual([desk.lead(goal), desk.spare, desk.present], [6, 0, goal])

    def test_forty_stones(self):
        desk = Desk(LONG_ROWS[0], House("lb-lb"), 1000)
        goal = (0, 1) + LONG_ROWS[1][:-2]
        self.assertEqual(desk.lead(goal), 38 * 37 // 2)
        self.assertEqual(desk.present, goal)
        self.check_error(Full(1000), desk.lead, LONG_ROWS[0])
        for text in ("lbh-lbh", "lh-lb", "bh-lbh"):
            house = House(text)
            many = len(road(LONG_ROWS[0], LONG_ROWS[1], house))
            desk = Desk(LONG_ROWS[0], house, many)
            self.assertEqual(desk.lead(LONG_ROWS[1]), many)
            self.check_error(Full(many - 1), Desk(LONG_ROWS[0], house, many - 1).lead, LONG_ROWS[1])


class Running(MillTest):

    def test_each_form(self):
        desk = Desk(ROW, HOUSE)
        deeds = [("change", 0), ("mark", "m"), ("change", 2), ("drop", 0), ("undo",), ("redo",), ("go", "m"),
                 ("lead", [2, 1, 4, 3]), ("undo",)]
        self.check_kinds(desk.run(deeds), 9)
        self.check_kinds([desk.present, desk.history(), desk.marks()], [(2, 1, 3, 4), [(0, 1, 2, 3)], ["m"]])
        desk.redo()
        self.assertEqual(desk.present, (2, 1, 4, 3))
        for count in (1, 1, 2, 1, 0):
            desk.undo()
            self.assertEqual(len(desk.history()), count)
        self.check_error(NothingToUndo(), desk.undo)

    def test_undo_takes_back_the_last_deed_alone(self):
        desk = Desk(ROW, HOUSE)
        desk.run((("change", 0), ("change", 2), ("mark", "m")))
        desk.undo()
        self.assertEqual([desk.history(), desk.marks()], [[(0, 1, 2, 3)], ["m"]])

    def test_nothing_to_do(self):
        desk = desk_with_all()
        before = whole(desk)
        for deeds in ([], ()):
            self.check_kinds(desk.run(deeds), 0)
            self.assertEqual(whole(desk), before)

    def test_what_is_no_list_of_deeds(self):
        desk = desk_with_all()
        before = whole(desk)
        for bad in SOME_DEEDS[1]:
            self.check_error(InvalidDeeds(bad), desk.run, bad)
        self.assertEqual(whole(desk), before)

    def test_a_hundred_items(self):
        desk = Desk(ROW, HOUSE)
        self.assertEqual(desk.run([("change", 0)] * 100), 100)
        self.assertEqual(desk.spare, 0)
        self.assertEqual(desk.run([("undo",)] * 100), 100)
        self.assertEqual(desk.history(), [])
        self.check_error(InvalidDeeds([("redo",)] * 101), desk.run, [("redo",)] * 101)
        self.check_error(DeedRefused(0), desk.run, [None] * 100)

    def test_deeds_of_every_wrong_form(self):
        desk = desk_with_all()
        before = whole(desk)
        wrong = support.NOT_INTEGERS + (
            0, "undo", ["undo"], ("undo", None), ("undo", 0), ("redo", 0), ("change",), ("change", 0, 0),
            ["change", 0], ("Change", 0), ("change ", 0), ("drop",), ("drop", 0, 1), ("mark",), ("mark", "x", "y"),
            ("go",), ("go", "m", "m"), ("lead",), ("lead", ROW, 1), ("lead", 1, 2, 3, 4), ("unmark", "m"),
            ("blame", 0), ("run", []), ("twin",), ("history",), ("set_limit", 5), ("limit", 5), (), (None,), (0,),
            (0, 0), (b"undo",), (("undo",),), ([], 0), ({}, 0), (support.Anything(),), (support.Anything(), 0),
            (True,), {"undo": 1}, {"undo"}, "change", ("", 0), ("_do", ("undo",)), ("__init__", 0),
        )
        for bad in wrong:
            for index, deeds in enumerate(([bad], [("mark", "new"), bad, ("undo",)], (("change", 0), ("undo",), bad))):
                self.check_error(DeedRefused(index), desk.run, deeds)
        self.assertEqual(whole(desk), before)

    def test_deeds_that_raise_errors(self):
        good = ("mark", "new")
        wrong = [("change", bad) for bad in support.NOT_INTEGERS + (-1, 3)]
        wrong += [("drop", bad) for bad in support.NOT_INTEGERS + (-1, 2)]
        wrong += [("mark", bad) for bad in NOT_NAMES + ("m",)]
        wrong += [("go", bad) for bad in NOT_NAMES + ("x",)]
        wrong += [("lead", bad) for bad in support.NOT_ROWS + ((1, 2), (4, 3, 2, 1))]
        desk = desk_with_all()
        before = whole(desk)
        for bad in wrong:
            self.check_error(DeedRefused(0), desk.run, [bad, good])
            self.check_error(DeedRefused(1), desk.run, [good, bad, good])
            self.check_error(DeedRefused(2), desk.run, (good, ("undo",), bad))
        self.check_error(DeedRefused(2), desk.run, [("undo",)] * 3)
        self.check_error(DeedRefused(2), desk.run, [("redo",)] * 3)
        self.check_error(DeedRefused(1), desk.run, [good, good])
        self.assertEqual(whole(desk), before)

    def test_forms_are_checked_when_their_turn_comes(self):
        desk = Desk(ROW, HOUSE)
        self.check_error(DeedRefused(0), desk.run, [("change", 9), None])
        self.check_error(DeedRefused(1), desk.run, [("change", 0), None, ("change", 9)])
        self.assertEqual(desk.history(), [])

    def test_the_limit_holds_in_a_run(self):
        desk = Desk(ROW, HOUSE, 3)
        before = whole(desk)
        self.check_error(DeedRefused(3), desk.run, [("change", 0)] * 4)
        self.assertEqual(whole(desk), before)
        self.assertEqual(desk.run([("change", 0), ("undo",)] * 4), 8)
        self.assertEqual(desk.limit, 3)

    def test_deeds_stay_as_they_were(self):
        goal = [2, 1, 3, 4]
        deeds = [("lead", goal), ("undo",)]
        Desk(ROW, HOUSE).run(deeds)
        self.assertEqual((deeds, goal), ([("lead", [2, 1, 3, 4]), ("undo",)], [2, 1, 3, 4]))

    def test_a_desk_and_its_twin_after_a_run(self):
        desk = Desk(ROW, HOUSE)
        desk.run([("change", 0), ("mark", "m")])
        twin = desk.twin()
        desk.run([("undo",), ("mark", "n")])
        self.assertEqual([twin.history(), twin.marks(), desk.marks()], [[(0, 1, 2, 3)], ["m"], ["m", "n"]])
        twin.undo()
        self.assertEqual(twin.history(), [])


class Reports(MillTest):

    def test_lines(self):
        desk = Desk(ROW, HOUSE)
        self.check_kinds(desk.report(), "")
        desk.change(0)
        line = "  0   0              1              2              3"
        self.check_kinds(desk.report(), line)
        desk.change(2)
        self.check_kinds(desk.report(), line + "\n  1   2              3              4              1")

    def test_long_numbers(self):
        desk = Desk((-TOP, TOP, 0), ALL)
        desk.change(0)
        self.assertEqual(desk.report(), "  0   0 -1000000000000  1000000000000              0")
        desk.change(1)
        self.assertEqual(desk.report().split("\n")[1], "  1   1 -1000000000000              0  1000000000000")

    def test_a_thousand_lines(self):
        desk = Desk(LONG_ROWS[0], House("lb-lb"), 1000)
        desk.lead((0, 1) + LONG_ROWS[1][:-2])
        for _ in range(297):
            desk.change(20)
        lines = desk.report().split("\n")
        self.assertEqual(len(lines), 1000)
        for index, (line, entry) in enumerate(zip(lines, desk.history())):
            self.assertEqual(len(line), 52)
            self.assertEqual([line[:3], line[4:7]], [str(index).rjust(3), str(entry[0]).rjust(3)])
            self.assertEqual([line[8:22], line[23:37], line[38:]], [str(item).rjust(14) for item in entry[1:]])
        self.assertEqual({line[at] for line in lines for at in (3, 7, 22, 37)}, {" "})


class Copies(MillTest):

    def test_twins(self):
        desk = desk_with_all()
        twin, before = desk.twin(), whole(desk)
        self.assertIsInstance(twin, Desk)
        self.assertEqual([whole(twin), twin.house], [before, desk.house])
        twin.redo()
        twin.change(0)
        twin.mark("x")
        twin.unmark("m")
        twin.limit = 50
        self.assertEqual(whole(desk), before)
        changed = whole(twin)
        desk.undo()
        desk.drop(0)
        desk.unmark("m")
        desk.limit = 3
        self.assertEqual(whole(twin), changed)

    def test_returned_lists(self):
        desk = desk_with_all()
        lists = [desk.history(), desk.marks(), desk.blame(0)]
        copies = [list(values) for values in lists]
        desk.change(0)
        desk.mark("x")
        self.assertEqual(lists, copies)
        before = whole(desk)
        for values in lists + [desk.history(), desk.marks()]:
            values.clear()
        self.assertEqual(whole(desk), before)

    def test_the_present_row_keeps_its_seal(self):
        for text in ("l-h", "bh-l", "lb-b", "l-"):
            house = House(text)
            row = (2, 4, 1, 5, 3, 6)
            desk = Desk(row, house)
            source = random.Random(text)
            for _ in range(40):
                try:
                    desk.change(source.randrange(5))
                except Barred:
                    pass
                self.assertEqual(seal(desk.present, house), seal(row, house))


class Modelled(MillTest):
    """Desks against a plain list of histories."""

    def drawn_deed(self, source, row, names):
        """A drawn call of a method with drawn arguments."""
        word = source.choice(("change",) * 8 + ("undo",) * 3 + ("redo",) * 2 + ("drop",) * 2 + (
            "mark", "unmark", "go", "lead"))
        if word == "change":
            return word, source.randrange(max(len(row) - 1, 1))
        if word == "drop":
            return word, source.randrange(8)
        if word == "lead":
            return word, tuple(source.sample(row, len(row)))
        return (word,) if word in ("undo", "redo") else (word, source.choice(names))

    def same_answer(self, desk, model, deed):
        """Both do the deed or refuse it, and both give the same result."""
        try:
            expected = getattr(model, deed[0])(*deed[1:])
        except Refused:
            with self.assertRaises(MillError):
                getattr(desk, deed[0])(*deed[1:])
            return
        self.assertEqual(getattr(desk, deed[0])(*deed[1:]), expected)

    def check_same(self, desk, model):
        """The desk tells what the plain one tells."""
        self.assertEqual(desk.history(), model.history)
        self.assertEqual(desk.present, model.row_behind(model.history))
        self.assertEqual(desk.marks(), sorted(model.marks))
        self.assertEqual(desk.spare, max(model.limit - len(model.history), 0))
        for index in range(len(model.history)):
            self.assertEqual(desk.blame(index), model.without(index)[1])

    def test_drawn_deeds(self):
        source = random.Random(59)
        for house in House.every():
            row = tuple(source.sample(range(-20, 20), source.randint(3, 6)))
            desk, model = Desk(row, house, 9), PlainDesk(row, house.text, 9)
            for _ in range(100):
                self.same_answer(desk, model, self.drawn_deed(source, row, ("a", "b", "c1")))
                self.check_same(desk, model)
                if source.random() < 0.05:
                    desk.limit = model.limit = source.randrange(12)

    def test_drawn_runs(self):
        source = random.Random(62)
        for house in House.every()[::2]:
            row = tuple(source.sample(range(-20, 20), source.randint(3, 5)))
            desk, model = Desk(row, house, 9), PlainDesk(row, house.text, 9)
            for _ in range(30):
                deeds = [self.drawn_deed(source, row, ("a", "b", "c1")) for _ in range(source.randint(0, 4))]
                deeds = [deed for deed in deeds if deed[0] != "unmark"]
                kept = (model.history, list(model.before), list(model.behind), dict(model.marks))
                refused = None
                for index, deed in enumerate(deeds):
                    try:
                        getattr(model, deed[0])(*deed[1:])
                    except Refused:
                        refused = index
                        model.history, model.before, model.behind, model.marks = kept
                        break
                if refused is None:
                    self.assertEqual(desk.run(deeds), len(deeds))
                else:
                    self.check_error(DeedRefused(refused), desk.run, deeds)
                self.check_same(desk, model)

    def test_a_history_of_a_thousand(self):
        source = random.Random(58)
        desk = Desk(LONG_ROWS[2], HOUSE, 1000)
        while desk.spare:
            try:
                desk.change(source.randrange(39))
            except Barred:
                pass
        self.assertEqual(desk.lead(desk.present), 0)
        self.assertTrue(comes(desk.present, LONG_ROWS[2], HOUSE))
        history = desk.history()
        gone = desk.drop(0)
        self.assertEqual(gone, [index for index in range(1000) if index in gone])
        self.assertEqual(len(desk.history()), 999 - len(gone))
        desk.undo()
        self.assertEqual([desk.history(), desk.blame(999), desk.blame(0)], [history, [], gone])
        for _ in range(1001):
            desk.undo()
        self.assertEqual([desk.history(), desk.present], [[], LONG_ROWS[2]])
        for _ in range(1001):
            desk.redo()
        self.assertEqual(desk.history(), history)
