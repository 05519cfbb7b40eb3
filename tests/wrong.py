"""Good arguments and, for each kind of argument, its error and values of every kind that are wrong in its place."""

from millbrook.costs import Cost, GapCost, TableCost
from millbrook.errors import InvalidAnswer, InvalidCost, InvalidDeeds, InvalidHouse, InvalidKeeper, InvalidKinds
from millbrook.errors import InvalidLog, InvalidName, InvalidNumber, InvalidPlace, InvalidRow, InvalidTable, InvalidText
from millbrook.errors import InvalidWalk, InvalidWeight, InvalidWord, NoName, NoSaying, NoStone
from millbrook.houses import House
from millbrook.locks import Lock
from millbrook.logs import Log
from tests import support

HOUSE = House("l-h")
ROW = [3, 1, 2, 4]
JOINED = [1, 3, 2, 4]
BAG = [3, 1, 3, 2]
# What is wrong as a place of a row of four stones, and as a walk of it.
NOT_PLACES = support.NOT_INTEGERS + (-1, 3, 4, 10**5000, -10**5000)
NOT_WALKS = support.NOT_LISTS + tuple(
    kind(places)
    for kind in (list, tuple)
    for places in ([3], [0, 1, 2, 3], [-1], [0, True], [False], [1.0], [None], ["0"], [[0]], [0] * 20001)
)
NOT_WORDS = support.NOT_TEXTS + (
    0, "U", "D", "DU", "UDD", "UUD", "UDDU", "-D-U", "u", "ud", "UDx", " ", "UD ", " UD", "U D", "U-D\n",
    "UDU", "\u2212", "\u2013", "UD\0", "-" * 41, "U" * 21 + "D" * 21, "-" * 100000, b"UD", ["U", "D"],
)
NOT_ROW_TEXTS = support.NOT_TEXTS + (
    "", " ", "Empty", "empty ", " empty", "empty empty", "1 empty", "EMPTY", "1 ", " 1", "1  2", "1\t2",
    "1\n2", "1\n", "\n1", "1,2", "1, 2", "01", "00", "-0", "+1", "--1", "- 1", "-", "1-", "1 -", "1.0", "1e3",
    "1_000", "0x1", "0b1", "x", "None", "True", "1 1", "2 3 2", "-5 5 -5", "(1, 2)", "[1]", "\u0661",
    "\uff11", "1 \u0662", "\u00b2", "\u2212" + "1", "1\u00a02", "1000000000001", "-1000000000001",
    "0000000000001", "10000000000000", "9" * 14, "1" * 5000, "1" * 100000, "-" + "1" * 100000,
    "0" * 100000, "-" * 100000, " " * 100000, " ".join(str(weight) for weight in range(41)),
    " ".join(str(weight) for weight in range(50000)), "empty" * 10000,
)


def number(low, high):
    """What is wrong as a number from low to high."""
    return InvalidNumber, support.NOT_INTEGERS + (low - 1, high + 1, 10**5000, -10**5000)


A_ROW = (InvalidRow, support.NOT_ROWS)
A_BAG = (InvalidRow, support.NOT_BAG_ROWS)
A_WEIGHT = (InvalidWeight, support.NOT_WEIGHTS)
A_PLACE = (InvalidPlace, NOT_PLACES)
A_WALK = (InvalidWalk, NOT_WALKS)
A_HOUSE = (InvalidHouse, support.not_houses())
A_TEXT = (InvalidText, NOT_ROW_TEXTS)
A_WORD = (InvalidWord, NOT_WORDS)
A_COST = (InvalidCost, support.NOT_INTEGERS + (0, 1, Cost, GapCost, TableCost, {(1, 2): 3}, "Cost"))
A_TABLE = (InvalidTable, tuple(value for value in support.NOT_LISTS if not isinstance(value, dict)) + (
    [], [((1, 2), 3)], ((1, 2), 3), {(2, 1): 3}, {(1, 2): -1}, {(1, 2): True}, {(1, 2): 3, (1, 2, 3): 3}))

NOT_NAMES = support.NOT_INTEGERS + (
    0, 1, "A", "aB", "1a", "1", "_a", "a_b", "a-b", "a b", " a", "a ", "a\n", "\na", "a" * 21, "a" * 100000,
    "\u00e9", "a\u00e9", "a\u0661", "\uff41", "a\u00b2", "\u03b1", "a\0", b"a", ["a"], ("a",),
)
A_NAME = (InvalidName, NOT_NAMES)
AN_ANSWER = (InvalidAnswer, tuple(value for value in support.NOT_INTEGERS if not isinstance(value, bool)) + (0, 1, -1))


def unknown_name(*others):
    """What is wrong as a name of a ledger or of a mark."""
    return NoName, NOT_NAMES + others


def stone(*others):
    """What is wrong as a stone of a row of the stones 1 to 4."""
    return NoStone, support.NOT_INTEGERS + (0, 5, -1, 10**12 + 1, 10**5000) + others


A_SAYING = (NoSaying, support.NOT_INTEGERS + (
    1, "31", (3,), (3, 1, 1), (3, 1, 2), [3, 1], (1, 3), (3, 3), (1, 1), (5, 6), (3, True), (3.0, 1), (3, 1.0),
    (3, None), (None, None), ([3], [1]), ((3, 1),), ((3, 1), 1), (3, [1]), ({}, {}), (10**5000, 1),
    (support.Anything(), support.Anything()), (3, support.Anything()), {3: 1}, {3, 1},
))
A_KEEPER = (InvalidKeeper, support.not_houses() + (0, 1, Lock(), Lock(HOUSE), House, Lock, [HOUSE]))
A_LOG = (InvalidLog, support.NOT_INTEGERS + (0, 1, Log, [((1, 2, 3), 0, True)], HOUSE))
A_SET_OF_KINDS = (InvalidKinds, support.NOT_LISTS + ("l-", {"l-": 1}, {"l-"}) + tuple(
    kind(items)
    for kind in (list, tuple)
    for items in (["l-", "l-"], ["l-", "-h", "l-"], ["l-h"], [""], ["-"], ["l"], ["L-"], ["x-"], ["l- "], [None],
                  [0], [True], [["l-"]], [("l-",)], [b"l-"], [support.Anything()], ["l-", support.Anything()],
                  [{}], [float("nan")], ["l-", 1], ["l-"] * 7, list(House.KINDS) + ["l-"], list(House.KINDS) * 10000)))
SOME_DEEDS = (InvalidDeeds, support.NOT_LISTS + (
    [("undo",)] * 101, (("undo",),) * 101, [None] * 101, list(range(1000)), {("undo",): 1}, ("undo",) * 101))
