"""The names, arguments and kinds of the interface, and all errors of the document."""

import importlib
import inspect
import unittest

from millbrook import errors
from millbrook.books import Book
from millbrook.certificates import Certificate, Parting, Road
from millbrook.costs import Cost, GapCost, TableCost
from millbrook.desks import Desk
from millbrook.errors import MillError
from millbrook.far import Brook
from millbrook.houses import House
from millbrook.ledgers import Ledger
from millbrook.locks import Lock
from millbrook.logs import Log
from millbrook.stories import Story

FUNCTIONS = {
    "rows": {
        "ranks": "(row)", "mirrored_row": "(row)", "flipped_row": "(row)", "turned": "(first, second)",
        "put_in": "(row, weight, index)", "taken_out": "(row, weight)", "every_row": "(stones)",
        "row_text": "(row)", "parse_row": "(text)",
    },
    "houses": {"House": "(text)"},
    "changes": {
        "kinds_at": "(row, place)", "helpers": "(row, place, house)",
        "nearest_helper": "(row, place, house)", "keystone": "(row, place, house)",
        "is_free": "(row, place, house)", "free_places": "(row, house)",
        "change_at": "(row, place, house)", "after": "(row, walk, house)",
        "rows_along": "(row, walk, house)",
    },
    "tame": {
        "is_tame": "(row, place)", "tame_places": "(row)", "tame_change": "(row, place)",
        "tame_after": "(row, walk)", "named_stones": "(row)", "named_turned": "(first, second)",
    },
    "far": {
        "rising": "(row)", "far_couples": "(row)", "covers": "(one, other)", "reach": "(row)",
        "comes_tame": "(first, second)", "tame_distance": "(first, second)",
        "tame_walk": "(first, second)", "parting_couple": "(first, second)",
        "shows_parting": "(first, second, paper)", "Brook": "()",
    },
    "words": {
        "is_word": "(word)", "word_of": "(row)", "couples_of_word": "(word)",
        "plainest": "(word, stones)", "count_words": "(length, *, couples=None)",
        "count_stuck": "(length)", "every_word": "(length)", "word_index": "(word)",
        "word_at": "(length, index)",
    },
    "bound": {
        "bound_pairs": "(row)", "width": "(row)", "row_index": "(row)", "row_at": "(row, index)",
        "first_tame": "(row)",
    },
    "sorts": {"sort_of": "(house)", "grade_of": "(house)", "carried_row": "(row, house)"},
    "seals": {
        "seal": "(row, house)", "comes": "(first, second, house)", "seal_parting": "(first, second, house)",
    },
    "counts": {"class_count": "(house, stones)", "class_width": "(row, house)"},
    "firsts": {"first_of_class": "(row, house)"},
    "plain": {
        "plain_class": "(row, house)", "plain_distance": "(first, second, house)",
        "count_walks": "(first, second, house)", "farthest": "(row, house)",
    },
    "roads": {
        "distance": "(first, second, house)", "shortest": "(first, second, house)",
        "road": "(first, second, house)", "one_way": "(first, second, house)",
    },
    "costs": {
        "Cost": "(base=1)", "GapCost": "(base=1)", "TableCost": "(table, base=1)",
        "walk_cost": "(row, walk, house, cost)", "least_cost": "(first, second, house, cost)",
    },
    "certificates": {
        "Certificate": "(house, first, second)", "Road": "(house, first, second, places)",
        "Parting": "(house, first, second, index, left, right)", "answer": "(first, second, house)",
    },
    "books": {"Book": "(stones)"},
    "housebooks": {"house_book": "(house, stones, *, want=1)", "least_want": "(house, first, second)"},
    "compare": {
        "joins_all": "(house, stones)", "alike": "(first, second, stones)", "parting_rows": "(first, second)",
        "houses_joining": "(first, second)", "finest_joining": "(first, second)",
    },
    "locks": {"Lock": "(*keepers)"},
    "logs": {"Log": "()"},
    "probes": {"probe": "(kinds)", "best_probe": "(log)", "find_house": "(ask)"},
    "stories": {"Story": "(row, house)"},
    "ledgers": {"Ledger": "()"},
    "desks": {"Desk": "(row, house, limit=100)"},
}
GENERATORS = ("every_row", "rows_along", "every_word")
COST_METHODS = {"of": "(self, lighter, heavier)", "__call__": "(self, lighter, heavier)"}
CERTIFICATE_METHODS = {"holds": "(self)", "summary": "(self)"}
METHODS = {
    House: {
        "named": "(self)", "mirrored": "(self)", "flipped": "(self)", "is_finer": "(self, other)",
        "__contains__": "(self, kind)", "__len__": "(self)", "__eq__": "(self, other)",
        "__str__": "(self)", "__repr__": "(self)", "__or__": "(self, other)",
        "__and__": "(self, other)", "__init__": "(self, text)",
    },
    Brook: {"__init__": "(self)", "lay": "(self, weight)", "lift": "(self)"},
    Cost: {"__init__": "(self, base=1)", **COST_METHODS},
    GapCost: {"__init__": "(self, base=1)", **COST_METHODS},
    TableCost: {"__init__": "(self, table, base=1)", **COST_METHODS},
    Certificate: {"__init__": "(self, house, first, second)", **CERTIFICATE_METHODS},
    Road: {"__init__": "(self, house, first, second, places)", **CERTIFICATE_METHODS},
    Parting: {"__init__": "(self, house, first, second, index, left, right)", **CERTIFICATE_METHODS},
    Book: {
        "__init__": "(self, stones)", "say": "(self, first, second, want=1)",
        "strengthen": "(self, stronger, weaker)", "ban": "(self, first, second)", "sayings": "(self)",
        "bans": "(self)", "is_stronger": "(self, one, other)", "true_sayings": "(self, row)",
        "strongest": "(self, row)", "allows": "(self, row, place)", "allowed": "(self, row)",
        "changed": "(self, row, place)", "book_seal": "(self, row)", "joins": "(self, first, second)",
        "road": "(self, first, second)", "parting": "(self, first, second)", "twin": "(self)", "__len__": "(self)",
        "__contains__": "(self, pair)",
    },
    Lock: {
        "__init__": "(self, *keepers)", "allows": "(self, row, place)", "allowed": "(self, row)",
        "changed": "(self, row, place)", "joins": "(self, first, second)", "road": "(self, first, second)",
        "parting": "(self, first, second)", "__len__": "(self)", "__add__": "(self, other)",
    },
    Log: {
        "__init__": "(self)", "note": "(self, row, place, done)", "strike": "(self, index)", "lines": "(self)",
        "twin": "(self)", "wrong_lines": "(self, house)", "fitting": "(self, *, wrong=0)", "greatest": "(self)",
        "least": "(self)", "least_wrong": "(self)", "culprits": "(self)", "foretold": "(self, row, place)",
        "__len__": "(self)",
    },
    Story: {
        "__init__": "(self, row, house)", "saw": "(self, place)", "unseen": "(self)",
        "glimpse": "(self, index, weight)", "refused": "(self, place)", "withdraw": "(self)", "events": "(self)",
        "possible": "(self)", "ways": "(self)", "places_of": "(self, event)", "broken_at": "(self)",
        "surely": "(self, index)",
    },
    Ledger: {
        "__init__": "(self)", "add_name": "(self, name, row=None)", "names": "(self)", "row_of": "(self, name)",
        "tell": "(self, house, one, other, same)", "strike": "(self, index)", "lines": "(self)",
        "standing": "(self, house, one, other)", "reason": "(self, house, one, other)", "groups": "(self, house)",
        "finest": "(self, one, other)", "coarsest_apart": "(self, one, other)", "twin": "(self)",
        "__len__": "(self)",
    },
    Desk: {
        "__init__": "(self, row, house, limit=100)", "set_limit": "(self, limit)", "change": "(self, place)",
        "undo": "(self)", "redo": "(self)", "history": "(self)", "drop": "(self, index)", "blame": "(self, index)",
        "mark": "(self, name)", "unmark": "(self, name)", "go": "(self, name)", "marks": "(self)",
        "lead": "(self, goal)", "run": "(self, deeds)", "twin": "(self)", "report": "(self)",
    },
}
ERRORS = {
    "InvalidRow": "row", "InvalidWeight": "weight", "InvalidPlace": "place", "InvalidWalk": "walk",
    "InvalidHouse": "house", "InvalidNumber": "number", "InvalidAnswer": "answer",
    "InvalidName": "name", "InvalidText": "text", "InvalidWord": "word", "InvalidKinds": "kinds",
    "InvalidKeeper": "keeper", "InvalidCost": "cost", "InvalidTable": "table", "InvalidLog": "log",
    "InvalidDeeds": "deeds", "InvalidCouple": "first second", "TooMany": "most given",
    "UnlikeStones": "first second", "NoStone": "weight", "StoneThere": "weight",
    "Barred": "place step", "NothingLaid": "", "NoExactDistance": "house", "NoBook": "house",
    "SayingThere": "first second", "NoSaying": "saying", "Ring": "stronger weaker",
    "WantTooSmall": "stronger weaker", "NameThere": "name", "NoName": "name",
    "Conflict": "house one other", "NothingToUndo": "", "NothingToRedo": "", "Full": "most",
    "Apart": "first second", "DeedRefused": "index",
}


class Interface(unittest.TestCase):

    def test_functions_and_classes(self):
        for file, names in FUNCTIONS.items():
            module = importlib.import_module("millbrook." + file)
            for name, parameters in names.items():
                with self.subTest(file=file, name=name):
                    made = getattr(module, name)
                    self.assertEqual(str(inspect.signature(made)), parameters)
                    self.assertEqual(made.__module__, "millbrook." + file)

    def test_generators(self):
        for file, names in FUNCTIONS.items():
            module = importlib.import_module("millbrook." + file)
            for name in names:
                made = inspect.isgeneratorfunction(getattr(module, name))
                self.assertEqual(made, name in GENERATORS, name)

    def test_methods_stand_in_their_own_classes(self):
        for owner, names in METHODS.items():
            for name, parameters in names.items():
                self.assertIn(name, vars(owner))
                self.assertEqual(str(inspect.signature(vars(owner)[name])), parameters, name)

    def test_class_methods_and_properties(self):
        self.assertIsInstance(vars(House)["by_number"], classmethod)
        self.assertEqual(str(inspect.signature(House.by_number)), "(number)")
        self.assertIsInstance(vars(House)["every"], staticmethod)
        self.assertEqual(str(inspect.signature(House.every)), "()")
        for owner, names in ((Brook, ("laid", "couples", "lightest")), (Desk, ("present", "spare", "limit"))):
            for name in names:
                self.assertIsInstance(vars(owner)[name], property)
        self.assertIsNotNone(vars(Desk)["limit"].fset)

    def test_attributes_are_set_on_each_object(self):
        house = House("l-h")
        self.assertEqual(vars(Book([3, 1, 2]))["stones"], (1, 2, 3))
        self.assertIs(vars(Desk([3, 1, 2], house))["house"], house)

    def test_classes_without_a_base(self):
        for owner in (Book, Lock, Log, Story, Ledger, Desk, Brook, House, Cost, Certificate):
            self.assertEqual(owner.__bases__, (object,))

    def test_class_value(self):
        self.assertEqual(vars(House)["KINDS"], ("l-", "b-", "h-", "-l", "-b", "-h"))

    def test_limits(self):
        rows = importlib.import_module("millbrook.rows")
        self.assertEqual((rows.MOST_STONES, rows.MOST_WEIGHT, rows.MOST_WALK), (40, 10**12, 20000))


class Errors(unittest.TestCase):

    def test_base_class(self):
        self.assertEqual(MillError.__bases__, (ValueError,))
        self.assertEqual(MillError.__module__, "millbrook.errors")

    def test_all_errors_and_no_others(self):
        found = {name for name, made in vars(errors).items() if isinstance(made, type)}
        self.assertEqual(found, set(ERRORS) | {"MillError"})

    def test_each_error_is_a_direct_subclass_and_keeps_its_arguments(self):
        for name, fields in ERRORS.items():
            made = getattr(errors, name)
            self.assertEqual(made.__bases__, (MillError,))
            self.assertEqual(made.__module__, "millbrook.errors")
            values = [[name, field] for field in fields.split()]
            for error in (made(*values), made(**dict(zip(fields.split(), values)))):
                self.assertEqual(list(vars(error)), fields.split())
                for field, value in zip(fields.split(), values):
                    self.assertIs(getattr(error, field), value)

    def test_errors_take_no_other_number_of_arguments(self):
        for name, fields in ERRORS.items():
            if fields:
                with self.assertRaises(TypeError):
                    getattr(errors, name)(*["x"] * (len(fields.split()) + 1))
                with self.assertRaises(TypeError):
                    getattr(errors, name)()
