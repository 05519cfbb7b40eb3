"""Good calls of the methods of all objects, and of the functions of the parts 5 to 9, with what their arguments are.

Each call makes its objects anew, so that it can be made again.
"""

from millbrook import compare, housebooks, probes
from millbrook.books import Book
from millbrook.desks import Desk
from millbrook.houses import House
from millbrook.ledgers import Ledger
from millbrook.locks import Lock
from millbrook.logs import Log
from millbrook.stories import Story
from tests.wrong import A_HOUSE, A_KEEPER, A_LOG, A_NAME, A_PLACE, A_ROW, A_SAYING, A_SET_OF_KINDS, AN_ANSWER, HOUSE
from tests.wrong import JOINED, ROW, SOME_DEEDS, number, stone, unknown_name

OTHER = House("b-")


def book():
    """A book with three sayings, of which the first is stronger than the others, and two bans."""
    made = Book(ROW)
    for first, second in ((3, 1), (3, 2), (4, 1)):
        made.say(first, second)
    made.strengthen((3, 1), (3, 2))
    made.ban(2, 1)
    made.ban(4, 3)
    return made


def lock():
    """A lock with two houses and a book."""
    return Lock(HOUSE, book(), House("l-"))


def log():
    """A log of two lines."""
    made = Log()
    made.note((1, 2, 3), 1, True)
    made.note((2, 1, 3), 1, False)
    return made


def story():
    """A story with an unseen change in the middle."""
    made = Story(ROW, HOUSE)
    made.glimpse(0, 3)
    made.unseen()
    made.refused(2)
    return made


def ledger():
    """A ledger with two bound names, two others, and two lines."""
    made = Ledger()
    for name, row in (("a", None), ("b", (1, 2, 3)), ("c", (1, 3, 2)), ("d", None)):
        made.add_name(name, row)
    made.tell(OTHER, "a", "b", True)
    made.tell(House("l-h"), "a", "d", False)
    return made


def desk():
    """A desk with two changes, a mark, one deed to undo and one to redo."""
    made = Desk(ROW, HOUSE, 10)
    made.change(0)
    made.mark("m")
    made.change(1)
    made.change(1)
    made.undo()
    return made


def on(made, name, *keywords):
    """A function that calls the method on a new object; the last arguments are passed by these keywords."""
    def function(*values):
        plain = len(values) - len(keywords)
        return getattr(made(), name)(*values[:plain], **dict(zip(keywords, values[plain:])))
    function.__name__ = f"{made.__name__}.{name}"
    return function


def with_limit(limit):
    """The limit of a desk after it was assigned."""
    made = desk()
    made.limit = limit
    return made.limit


A_STONE = stone()
A_KNOWN_NAME = unknown_name("e", "m", "b1")
A_MARK = unknown_name("a", "m1")

OBJECT_CALLS = (
    (lambda stones: Book(stones).stones, (ROW, A_ROW)),
    (on(book, "say"), (1, A_STONE), (2, A_STONE), (0, number(0, 100))),
    (on(book, "say"), (2, A_STONE), (1, A_STONE), (100, number(0, 100))),
    (on(book, "strengthen"), ((3, 1), A_SAYING), ((4, 1), A_SAYING)),
    (on(book, "ban"), (1, A_STONE), (4, A_STONE)),
    (on(book, "sayings"),),
    (on(book, "bans"),),
    (on(book, "is_stronger"), ((3, 2), A_SAYING), ((3, 1), A_SAYING)),
    (on(book, "true_sayings"), (ROW, A_ROW)),
    (on(book, "strongest"), (ROW, A_ROW)),
    (on(book, "allows"), (ROW, A_ROW), (0, A_PLACE)),
    (on(book, "allowed"), (ROW, A_ROW)),
    (on(book, "changed"), (ROW, A_ROW), (2, A_PLACE)),
    (on(book, "book_seal"), (ROW, A_ROW)),
    (on(book, "joins"), (ROW, A_ROW), (JOINED, A_ROW)),
    (on(book, "road"), (ROW, A_ROW), (JOINED, A_ROW)),
    (on(book, "parting"), (ROW, A_ROW), (JOINED, A_ROW)),
    (lambda house, stones, want: housebooks.house_book(house, stones, want=want).sayings(),
     (HOUSE, A_HOUSE), (ROW, A_ROW), (100, number(0, 100))),
    (housebooks.least_want, (HOUSE, A_HOUSE), (ROW, A_ROW), (JOINED, A_ROW)),
    (compare.joins_all, (HOUSE, A_HOUSE), (60, number(0, 60))),
    (compare.alike, (HOUSE, A_HOUSE), (OTHER, A_HOUSE), (0, number(0, 60))),
    (compare.parting_rows, (HOUSE, A_HOUSE), (OTHER, A_HOUSE)),
    (compare.houses_joining, (ROW, A_ROW), (JOINED, A_ROW)),
    (compare.finest_joining, (ROW, A_ROW), (JOINED, A_ROW)),
    (lambda *keepers: len(Lock(*keepers)), (HOUSE, A_KEEPER), (book(), A_KEEPER), (HOUSE, A_KEEPER)),
    (lambda keeper: len(lock() + keeper), (HOUSE, A_KEEPER)),
    (on(lock, "allows"), (ROW, A_ROW), (0, A_PLACE)),
    (on(lock, "allowed"), (ROW, A_ROW)),
    (on(lock, "changed"), (ROW, A_ROW), (2, A_PLACE)),
    (on(lock, "joins"), (ROW, A_ROW), (JOINED, A_ROW)),
    (on(lock, "road"), (ROW, A_ROW), (JOINED, A_ROW)),
    (on(lock, "parting"), (ROW, A_ROW), (JOINED, A_ROW)),
    (on(log, "note"), (ROW, A_ROW), (2, A_PLACE), (False, AN_ANSWER)),
    (on(log, "strike"), (1, number(0, 1))),
    (on(log, "lines"),),
    (on(log, "wrong_lines"), (HOUSE, A_HOUSE)),
    (on(log, "fitting", "wrong"), (200, number(0, 200))),
    (on(log, "least"),),
    (on(log, "least_wrong"),),
    (on(log, "culprits"),),
    (on(log, "foretold"), (ROW, A_ROW), (2, A_PLACE)),
    (probes.probe, (["l-", "-h"], A_SET_OF_KINDS)),
    (probes.best_probe, (log(), A_LOG)),
    (lambda answer: probes.find_house(lambda row, place: answer), (True, AN_ANSWER)),
    (lambda row, house: Story(row, house).possible(), (ROW, A_ROW), (HOUSE, A_HOUSE)),
    (on(story, "saw"), (2, A_PLACE)),
    (on(story, "glimpse"), (3, number(0, 3)), (1, A_STONE)),
    (on(story, "refused"), (2, A_PLACE)),
    (on(story, "events"),),
    (on(story, "possible"),),
    (on(story, "places_of"), (1, (number(0, 0)[0], number(0, 2)[1] + (0, 2)))),
    (on(story, "surely"), (3, number(0, 3))),
    (on(ledger, "add_name"), ("e", A_NAME), ([2, 3, 1], (A_ROW[0], A_ROW[1][1:]))),
    (on(ledger, "names"),),
    (on(ledger, "row_of"), ("b", A_KNOWN_NAME)),
    (on(ledger, "tell"), (HOUSE, A_HOUSE), ("a", A_KNOWN_NAME), ("d", A_KNOWN_NAME), (False, AN_ANSWER)),
    (on(ledger, "strike"), (1, number(0, 1))),
    (on(ledger, "lines"),),
    (on(ledger, "standing"), (HOUSE, A_HOUSE), ("a", A_KNOWN_NAME), ("b", A_KNOWN_NAME)),
    (on(ledger, "reason"), (OTHER, A_HOUSE), ("a", A_KNOWN_NAME), ("b", A_KNOWN_NAME)),
    (on(ledger, "groups"), (HOUSE, A_HOUSE)),
    (on(ledger, "finest"), ("a", A_KNOWN_NAME), ("b", A_KNOWN_NAME)),
    (on(ledger, "coarsest_apart"), ("a", A_KNOWN_NAME), ("b", A_KNOWN_NAME)),
    (lambda row, house, limit: Desk(row, house, limit).present, (ROW, A_ROW), (HOUSE, A_HOUSE), (0, number(0, 1000))),
    (lambda limit: Desk(ROW, HOUSE, limit).spare, (1000, number(0, 1000))),
    (with_limit, (1000, number(0, 1000))),
    (on(desk, "set_limit"), (0, number(0, 1000))),
    (on(desk, "change"), (0, A_PLACE)),
    (on(desk, "history"),),
    (on(desk, "drop"), (1, number(0, 1))),
    (on(desk, "blame"), (0, number(0, 1))),
    (on(desk, "mark"), ("m1", A_NAME)),
    (on(desk, "unmark"), ("m", A_MARK)),
    (on(desk, "go"), ("m", A_MARK)),
    (on(desk, "marks"),),
    (on(desk, "lead"), (ROW, A_ROW)),
    (on(desk, "run"), ([("undo",), ("mark", "n"), ("lead", ROW)], SOME_DEEDS)),
)
