"""Stories: what may have happened to a row, its ways and its possible rows [53]."""

import random
from itertools import product

from millbrook.errors import InvalidHouse, InvalidNumber, InvalidPlace, InvalidRow, NoStone, NothingToUndo, TooMany
from millbrook.houses import House
from millbrook.seals import comes
from millbrook.stories import Story
from tests import plain, search, support
from tests.support import TOP, MillTest

HOUSES = House.every()
HOUSE = House("l-h")
ALL = House("lbh-lbh")


def story_of(row, house, events):
    """A story of these events."""
    story = Story(row, house)
    for event in events:
        getattr(story, event[0])(*event[1:])
    return story


def run_of(row, text, events, choice):
    """The rows behind each event, the first included, if the unseen changes happen at these places, or None."""
    rows, choice = [tuple(row)], list(choice)
    for event in events:
        present = rows[-1]
        if event[0] == "glimpse":
            if present[event[1]] != event[2]:
                return None
            rows.append(present)
        elif event[0] == "refused":
            if plain.is_free(present, event[1], text):
                return None
            rows.append(present)
        else:
            place = event[1] if event[0] == "saw" else choice.pop(0)
            if not plain.is_free(present, place, text):
                return None
            rows.append(plain.change(present, place))
    return rows


def all_ways(row, text, events):
    """All ways of a story, found by trying all choices: pairs of the places chosen and the row at the end."""
    unseen = sum(event[0] == "unseen" for event in events)
    found = []
    for choice in product(range(max(len(row) - 1, 0)), repeat=unseen):
        rows = run_of(row, text, events, choice)
        if rows is not None:
            found.append((choice, rows[-1]))
    return found


def drawn_events(source, row, text, many, lies):
    """Drawn events that happened, but for some lies, and the row at the end."""
    events, present = [], tuple(row)
    for _ in range(many):
        free = [place for place in range(len(row) - 1) if plain.is_free(present, place, text)]
        barred = [place for place in range(len(row) - 1) if place not in free]
        word = source.choice(("saw", "unseen", "unseen", "glimpse", "refused"))
        if source.random() < lies and len(row) > 1:
            events.append(source.choice((("saw", source.randrange(len(row) - 1)), ("unseen",),
                                         ("glimpse", source.randrange(len(row)), source.choice(row)),
                                         ("refused", source.randrange(len(row) - 1)))))
        elif word in ("saw", "unseen") and free:
            place = source.choice(free)
            present = plain.change(present, place)
            events.append((word, place) if word == "saw" else (word,))
        elif word == "glimpse" and row:
            index = source.randrange(len(row))
            events.append((word, index, present[index]))
        elif word == "refused" and barred:
            events.append((word, source.choice(barred)))
    return events


class Events(MillTest):

    def test_events_in_the_order_told(self):
        story = Story([3, 1, 2], HOUSE)
        self.check_kinds(story.events(), [])
        story.saw(1)
        story.unseen()
        story.glimpse(2, 3)
        story.refused(0)
        self.check_kinds(story.events(), [("saw", 1), ("unseen",), ("glimpse", 2, 3), ("refused", 0)])

    def test_rows_of_each_length(self):
        for count in range(7):
            row = tuple(range(10, 10 + count))
            story = Story(list(row), HOUSE)
            self.check_kinds([story.possible(), story.ways(), story.broken_at()], [[row], 1, None])
            self.check_kinds([story.surely(index) for index in range(count)], list(row))
        for count in range(7, 41):
            self.check_error(TooMany(6, count), Story, list(range(count)), None)
        self.check_error(InvalidRow([1] * 7), Story, [1] * 7, None)
        self.check_error(InvalidHouse("l-h"), Story, (), "l-h")

    def test_forty_events(self):
        story = Story((1, 2, 3), HOUSE)
        for count in range(40):
            self.assertEqual(len(story.events()), count)
            story.glimpse(0, 1)
        for function, *told in ((story.saw, 0), (story.unseen,), (story.glimpse, 0, 1), (story.refused, 0)):
            self.check_error(TooMany(40, 41), function, *told)
        for function, bad in ((story.saw, 2), (story.refused, -1)):
            self.check_error(InvalidPlace(bad), function, bad)
        self.check_error(InvalidNumber(3), story.glimpse, 3, 4)
        self.check_error(NoStone(4), story.glimpse, 0, 4)
        self.assertEqual(len(story.events()), 40)
        story.withdraw()
        story.unseen()
        self.assertEqual(story.events()[39], ("unseen",))
        self.check_error(TooMany(40, 41), story.unseen)

    def test_withdraw(self):
        story = Story((1, 2, 3), HOUSE)
        self.check_error(NothingToUndo(), story.withdraw)
        story.saw(0)
        story.saw(0)
        self.assertEqual(story.broken_at(), None)
        story.withdraw()
        self.check_kinds([story.events(), story.possible()], [[("saw", 0)], [(2, 1, 3)]])
        story.withdraw()
        self.check_kinds([story.events(), story.possible()], [[], [(1, 2, 3)]])
        self.check_error(NothingToUndo(), story.withdraw)

    def test_stones_that_the_row_does_not_have(self):
        story = Story((1, 0, TOP), HOUSE)
        for bad in support.NOT_INTEGERS + (2, -1, TOP + 1, 10**5000):
            self.check_error(NoStone(bad), story.glimpse, 0, bad)
            self.check_error(InvalidNumber(3), story.glimpse, 3, bad)
        self.check_error(InvalidNumber(0), Story((), HOUSE).glimpse, 0, 1)
        self.assertEqual(story.events(), [])

    def test_short_rows_have_no_place(self):
        for row in ((), (5,)):
            story = Story(row, ALL)
            for bad in (0, -1, None):
                self.check_error(InvalidPlace(bad), story.saw, bad)
                self.check_error(InvalidPlace(bad), story.refused, bad)
                self.check_error(InvalidNumber(bad if bad != 0 or not row else 1), story.surely,
                                 bad if bad != 0 or not row else 1)
            story.unseen()
            self.check_kinds([story.broken_at(), story.possible(), story.ways(), story.places_of(0)], [0, [], 0, []])

    def test_returned_lists(self):
        story = story_of((1, 2, 3), HOUSE, [("unseen",), ("unseen",)])
        lists = [story.events(), story.possible(), story.places_of(0)]
        copies = [list(values) for values in lists]
        story.glimpse(0, 1)
        self.assertEqual(lists, copies)
        for values in lists:
            values.append(None)
        self.assertEqual([story.events()[:2], story.possible(), story.places_of(0)],
                         [[("unseen",), ("unseen",)], [(1, 2, 3)], [0, 1]])

    def test_a_row_that_the_caller_changes(self):
        row = [1, 2, 3]
        story = Story(row, HOUSE)
        row.clear()
        story.saw(0)
        self.assertEqual(story.possible(), [(2, 1, 3)])


class Ways(MillTest):

    def check_story(self, row, house, events):
        """All that a story tells, against a search over all choices for it and for its beginnings."""
        story = story_of(row, house, events)
        ways = all_ways(row, house.text, events)
        rows = sorted({end for _, end in ways})
        self.check_kinds([story.possible(), story.ways()], [rows, len(ways)])
        unseen = [index for index, event in enumerate(events) if event[0] == "unseen"]
        for at, index in enumerate(unseen):
            self.check_kinds(story.places_of(index), sorted({choice[at] for choice, _ in ways}))
        for index in range(len(row)):
            stones = {end[index] for end in rows}
            self.check_kinds(story.surely(index), stones.pop() if len(stones) == 1 else None)
        broken = [index for index in range(len(events)) if not all_ways(row, house.text, events[:index + 1])]
        self.check_kinds(story.broken_at(), broken[0] if broken else None)
        self.assertTrue(all(comes(row, end, house) for end in rows))

    def test_drawn_stories_of_three_and_four_stones(self):
        source = random.Random(53)
        for house in HOUSES:
            for count, many, lies in ((2, 3, 0.3), (3, 6, 0.0), (3, 6, 0.2), (4, 5, 0.0), (4, 6, 0.15)):
                row = tuple(source.sample(range(-9, 9), count))
                self.check_story(row, house, drawn_events(source, row, house.text, many, lies))

    def test_drawn_stories_of_five_and_six_stones(self):
        source = random.Random(54)
        for house in HOUSES[::2]:
            for count in (5, 6):
                row = tuple(source.sample(range(-9, 9), count))
                events = drawn_events(source, row, house.text, 6, 0.05)
                while sum(event[0] == "unseen" for event in events) > 3:
                    events.remove(("unseen",))
                self.check_story(row, house, events)

    def test_short_rows(self):
        for house in HOUSES[::9]:
            for row in ((), (4,), (2, 1)):
                for events in ([], [("unseen",)], [("unseen",), ("unseen",)]):
                    self.check_story(row, house, events)
            self.check_story((2, 1), house, [("refused", 0), ("glimpse", 1, 1), ("refused", 0)])
            self.check_story((2, 1), house, [("saw", 0), ("refused", 0)])

    def test_what_comes_later_tells_of_unseen_changes(self):
        story = story_of((1, 2, 3, 4), ALL, [("unseen",)])
        self.assertEqual(story.places_of(0), [0, 1, 2])
        story.glimpse(0, 1)
        self.assertEqual(story.places_of(0), [1, 2])
        story.glimpse(3, 3)
        self.assertEqual(story.places_of(0), [2])
        story.glimpse(0, 4)
        self.assertEqual(story.places_of(0), [])

    def test_broken_stories_go_on(self):
        story = story_of((1, 2, 3), HOUSE, [("unseen",), ("refused", 0), ("glimpse", 0, 3), ("unseen",)])
        self.check_kinds([story.broken_at(), story.possible(), story.ways()], [2, [], 0])
        self.check_kinds([story.places_of(0), story.places_of(3)], [[], []])
        self.check_kinds([story.surely(index) for index in range(3)], [None, None, None])
        story.saw(1)
        story.glimpse(1, 2)
        self.assertEqual([story.broken_at(), len(story.events())], [2, 6])
        for _ in range(4):
            story.withdraw()
        self.assertEqual([story.broken_at(), story.ways() > 0], [None, True])

    def test_places_of_unseen_changes_alone(self):
        events = [("unseen",), ("saw", 1), ("glimpse", 0, 1), ("unseen",), ("refused", 0)]
        story = story_of((1, 2, 3), ALL, events)
        for index in (1, 2, 4, 5, -1, -2, 10**5000) + support.NOT_INTEGERS:
            self.check_error(InvalidNumber(index), story.places_of, index)
        self.check_error(InvalidNumber(0), Story((1, 2, 3), ALL).places_of, 0)
        story.unseen()
        self.assertEqual(story.places_of(5), [])
        for index in (-1, -3, 6):
            self.check_error(InvalidNumber(index), story.places_of, index)

    def test_very_many_ways(self):
        story = story_of((1, 2, 3, 4, 5, 6), ALL, [("unseen",)] * 40)
        self.assertEqual(story.ways(), 5**40)
        self.assertEqual(len(story.possible()), 360)
        self.assertEqual([story.places_of(index) for index in (0, 20, 39)], [[0, 1, 2, 3, 4]] * 3)
        story.withdraw()
        story.glimpse(0, 6)
        self.assertEqual([story.broken_at(), story.surely(0), story.surely(1)], [None, 6, None])

    def test_many_ways_against_numbers_of_walks(self):
        for house in HOUSES[::8]:
            steps = search.graph(4)
            counts = {(2, 4, 1, 3): 1}
            story = Story((2, 4, 1, 3), house)
            for _ in range(12):
                following = {}
                for row, many in counts.items():
                    for kinds, other in steps[row]:
                        if kinds & house.number:
                            following[other] = following.get(other, 0) + many
                counts = following
                story.unseen()
                self.check_kinds([story.ways(), story.possible()], [sum(counts.values()), sorted(counts)])

    def test_an_error_changes_nothing(self):
        story = story_of((1, 2, 3), HOUSE, [("unseen",), ("saw", 0)])
        before = (story.events(), story.possible(), story.ways())
        for function, *told in ((story.saw, 2), (story.glimpse, 0, 9), (story.glimpse, 3, 1), (story.refused, None),
                                (story.places_of, 1), (story.surely, 3)):
            with self.assertRaises(ValueError):
                function(*told)
            self.assertEqual((story.events(), story.possible(), story.ways()), before)
