"""The errors of the program [4]; each keeps its arguments as they were passed."""


class MillError(ValueError):
    """The base class of all errors of the program."""


class InvalidRow(MillError):
    """Not a list or a tuple of at most 40 (different) weights."""

    def __init__(self, row):
        self.row = row


class InvalidWeight(MillError):
    """Not an integer from -10**12 to 10**12."""

    def __init__(self, weight):
        self.weight = weight


class InvalidPlace(MillError):
    """Not a place of the row."""

    def __init__(self, place):
        self.place = place


class InvalidWalk(MillError):
    """Not a list or a tuple of at most 20000 places of the row."""

    def __init__(self, walk):
        self.walk = walk


class InvalidHouse(MillError):
    """Not a house, or not the text of one."""

    def __init__(self, house):
        self.house = house


class InvalidNumber(MillError):
    """Not an integer of the range that is asked for."""

    def __init__(self, number):
        self.number = number


class InvalidAnswer(MillError):
    """Neither True nor False."""

    def __init__(self, answer):
        self.answer = answer


class InvalidName(MillError):
    """Not a name."""

    def __init__(self, name):
        self.name = name


class InvalidText(MillError):
    """Not the text of a row."""

    def __init__(self, text):
        self.text = text


class InvalidWord(MillError):
    """Not a word, or not one for so many stones."""

    def __init__(self, word):
        self.word = word


class InvalidKinds(MillError):
    """Not a list or a tuple of different kinds."""

    def __init__(self, kinds):
        self.kinds = kinds


class InvalidKeeper(MillError):
    """Neither a house nor a book."""

    def __init__(self, keeper):
        self.keeper = keeper


class InvalidCost(MillError):
    """Not a cost."""

    def __init__(self, cost):
        self.cost = cost


class InvalidTable(MillError):
    """Not a table of costs."""

    def __init__(self, table):
        self.table = table


class InvalidLog(MillError):
    """Not a log."""

    def __init__(self, log):
        self.log = log


class InvalidDeeds(MillError):
    """Not a list or a tuple of at most 100 items."""

    def __init__(self, deeds):
        self.deeds = deeds


class InvalidCouple(MillError):
    """The two stones are the same."""

    def __init__(self, first, second):
        self.first = first
        self.second = second


class TooMany(MillError):
    """More than the limit allows."""

    def __init__(self, most, given):
        self.most = most
        self.given = given


class UnlikeStones(MillError):
    """The two rows do not hold the same stones."""

    def __init__(self, first, second):
        self.first = first
        self.second = second


class NoStone(MillError):
    """There is no such stone."""

    def __init__(self, weight):
        self.weight = weight


class StoneThere(MillError):
    """There is such a stone already."""

    def __init__(self, weight):
        self.weight = weight


class Barred(MillError):
    """The change at this step of the walk is not allowed."""

    def __init__(self, place, step):
        self.place = place
        self.step = step


class NothingLaid(MillError):
    """There is no stone to lift."""


class NoExactDistance(MillError):
    """The grade of the house is too low for this."""

    def __init__(self, house):
        self.house = house


class NoBook(MillError):
    """The house is not a book."""

    def __init__(self, house):
        self.house = house


class SayingThere(MillError):
    """There is a saying about the two stones already."""

    def __init__(self, first, second):
        self.first = first
        self.second = second


class NoSaying(MillError):
    """There is no such saying."""

    def __init__(self, saying):
        self.saying = saying


class Ring(MillError):
    """A saying would be stronger than itself."""

    def __init__(self, stronger, weaker):
        self.stronger = stronger
        self.weaker = weaker


class WantTooSmall(MillError):
    """The stronger saying wants less than the weaker one."""

    def __init__(self, stronger, weaker):
        self.stronger = stronger
        self.weaker = weaker


class NameThere(MillError):
    """There is such a name already."""

    def __init__(self, name):
        self.name = name


class NoName(MillError):
    """There is no such name."""

    def __init__(self, name):
        self.name = name


class Conflict(MillError):
    """The line contradicts the ledger."""

    def __init__(self, house, one, other):
        self.house = house
        self.one = one
        self.other = other


class NothingToUndo(MillError):
    """There is nothing to undo."""


class NothingToRedo(MillError):
    """There is nothing to redo."""


class Full(MillError):
    """The history would be longer than the limit."""

    def __init__(self, most):
        self.most = most


class Apart(MillError):
    """Neither row comes of the other."""

    def __init__(self, first, second):
        self.first = first
        self.second = second


class DeedRefused(MillError):
    """One of the deeds cannot be done."""

    def __init__(self, index):
        self.index = index
