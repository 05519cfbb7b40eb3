"""Words: the signs that tell which stones of a row are in far couples [18] to [20], [23]."""

from math import comb, factorial

from millbrook.errors import InvalidWord
from millbrook.far import far_of
from millbrook.rows import MOST_STONES, check_row
from millbrook.values import check_number

_MOST_COUNTED = 60
_MOST_LISTED = 10
# By how much each sign changes the number of U minus that of D, in the order of the signs.
_STEPS = {"-": 0, "D": -1, "U": 1}


def is_word(word):
    """Tells whether the value is a word."""
    if not isinstance(word, str) or len(word) > MOST_STONES:
        return False
    surplus = 0
    for sign in word:
        if sign not in _STEPS:
            return False
        surplus += _STEPS[sign]
        if surplus < 0:
            return False
    return surplus == 0


def check_word(word):
    """Raises InvalidWord unless this is a word."""
    if not is_word(word):
        raise InvalidWord(word)


def word_of(row):
    """The word of the row."""
    check_row(row)
    signs = {weight: "-" for weight in row}
    for lighter, heavier in far_of(row):
        signs[lighter] = "U"
        signs[heavier] = "D"
    return "".join([signs[weight] for weight in sorted(row)])


def _marked(sign, word, stones):
    """The ascending stones that the word marks with the sign."""
    return [stone for mark, stone in zip(word, stones) if mark == sign]


def _couples_on(word, stones):
    """The couples of the word, as stones, which are given in ascending order."""
    return list(zip(_marked("U", word, stones), _marked("D", word, stones)))


def couples_of_word(word):
    """The couples of ranks of the word in ascending order."""
    check_word(word)
    return _couples_on(word, list(range(1, len(word) + 1)))


def _block(plain, couple):
    """One block of a plainest row: its plain stones, which are ascending, and its couple."""
    lighter = [stone for stone in plain if stone < couple[1]]
    heavier = [stone for stone in plain if stone > couple[1]]
    return heavier[::-1] + lighter + list(couple)


def plainest(word, stones):
    """The plainest row of the word on these stones."""
    check_word(word)
    check_row(stones)
    if len(word) != len(stones):
        raise InvalidWord(word)
    plain = _marked("-", word, sorted(stones))
    row = []
    for couple in _couples_on(word, sorted(stones))[::-1]:
        row += _block([stone for stone in plain if stone > couple[0]], couple)
        plain = [stone for stone in plain if stone < couple[0]]
    return tuple(row + plain[::-1])


def _count_with(length, couples):
    """The number of words of the length with exactly so many couples."""
    if 2 * couples > length:
        return 0
    rest = factorial(length - 2 * couples)
    return factorial(length) // (rest * factorial(couples) * factorial(couples + 1))


def _count_all(length):
    """The number of all words of the length."""
    return sum([_count_with(length, couples) for couples in range(length // 2 + 1)])


def count_words(length, *, couples=None):
    """The number of words of the length, or of those with exactly so many couples."""
    check_number(length, 0, _MOST_COUNTED)
    if couples is None:
        return _count_all(length)
    check_number(couples, 0, _MOST_COUNTED)
    return _count_with(length, couples)


def count_stuck(length):
    """The number of stuck rows of so many stones."""
    check_number(length, 0, _MOST_COUNTED)
    return comb(length, length // 2)


def _all_words(length):
    """The words of the length in dictionary order."""
    begun = [("", 0)]
    for left in range(length - 1, -1, -1):
        begun = [
            (word + sign, surplus + step)
            for word, surplus in begun
            for sign, step in _STEPS.items()
            if 0 <= surplus + step <= left
        ]
    return [word for word, _ in begun]


def every_word(length):
    """Gives the words of the length in dictionary order."""
    check_number(length, 0, _MOST_LISTED)
    yield from _all_words(length)


def _endings(length):
    """A list for each number of signs from 0 to the length: in how many ways so many signs end a
    word that has 0, 1, 2, .. more U than D before them."""
    endings = [[1] + [0] * length]
    for _ in range(length):
        fewer = [0, *endings[-1], 0]
        endings.append([sum(fewer[surplus:surplus + 3]) for surplus in range(length + 1)])
    return endings


def _ways_before(sign, surplus, ending):
    """In how many ways a word goes on with a sign that comes before this one in their order."""
    ahead = [surplus + step for other, step in _STEPS.items() if other < sign]
    return sum([ending[reached] for reached in ahead if reached >= 0])


def word_index(word):
    """The number of words of the same length that come before the word."""
    check_word(word)
    endings = _endings(len(word))
    index = 0
    surplus = 0
    for at, sign in enumerate(word):
        index += _ways_before(sign, surplus, endings[len(word) - at - 1])
        surplus += _STEPS[sign]
    return index


def word_at(length, index):
    """The word of the length, at most 40, with this index."""
    check_number(length, 0, MOST_STONES)
    check_number(index, 0, _count_all(length) - 1)
    endings = _endings(length)
    word = ""
    surplus = 0
    left = index
    for at in range(length):
        ending = endings[length - at - 1]
        # A sign with which no word goes on is never the last of these.
        signs = [sign for sign in _STEPS if _ways_before(sign, surplus, ending) <= left]
        left -= _ways_before(signs[-1], surplus, ending)
        surplus += _STEPS[signs[-1]]
        word += signs[-1]
    return word
