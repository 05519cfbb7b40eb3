"""Words, plainest rows, counts and stuck rows [18], [19], [20], [23]."""

from itertools import permutations, product
from math import factorial

from millbrook.errors import InvalidNumber, InvalidRow, InvalidWord
from millbrook.far import far_couples
from millbrook.rows import ranks
from millbrook.tame import tame_places
from millbrook.words import count_stuck, count_words, couples_of_word, every_word, is_word, plainest
from millbrook.words import word_at, word_index, word_of
from tests import plain, support
from tests.support import LONG_ROWS, TOP, MillTest
from tests.wrong import NOT_WORDS

LONG_WORDS = (
    "-" * 40, "U" * 20 + "D" * 20, "UD" * 20, "U-D-" * 10, "-" * 38 + "UD", "UD" + "-" * 38, "UUDD" * 10,
    "U" + "-" * 38 + "D", "UUU--DDU-D-D" * 3 + "--UD", "-" * 39, "U" * 19 + "-" + "D" * 19,
)


def couples_of(word):
    """The couples of a word by the words of [18]."""
    ups = [at + 1 for at, sign in enumerate(word) if sign == "U"]
    downs = [at + 1 for at, sign in enumerate(word) if sign == "D"]
    return list(zip(ups, downs))


class Words(MillTest):

    def test_is_word(self):
        for length in range(7):
            for signs in product("-DU", repeat=length):
                self.assertIs(is_word("".join(signs)), plain.is_word("".join(signs)))
        for word in LONG_WORDS + ("",):
            self.assertIs(is_word(word), True)
        for value in NOT_WORDS:
            self.assertIs(is_word(value), False)

    def test_words_of_0_40_and_41_signs(self):
        self.assertIs(is_word(""), True)
        self.check_kinds(couples_of_word(""), [])
        self.check_kinds(word_index(""), 0)
        self.check_kinds(plainest("", []), ())
        self.check_kinds(couples_of_word("UD" * 20), [(2 * at + 1, 2 * at + 2) for at in range(20)])
        for word in ("-" * 41, "UD" * 20 + "-", "U" * 21 + "D" * 21):
            self.assertIs(is_word(word), False)
            for function in (couples_of_word, word_index):
                self.check_error(InvalidWord(word), function, word)

    def test_word_of(self):
        for n in range(7):
            for row in permutations((-9, 0, 4, 5, 30, TOP)[:n]):
                couples = [(ranks(sorted(row))[sorted(row).index(a)], sorted(row).index(b) + 1)
                           for a, b in plain.far_couples(row)]
                word = word_of(list(row))
                self.check_kinds(couples_of_word(word), couples)
                self.assertEqual(len(word), n)

    def test_words_of_long_rows(self):
        for row in LONG_ROWS:
            word = word_of(row)
            self.assertTrue(is_word(word))
            stones = sorted(row)
            self.assertEqual(
                [(stones[a - 1], stones[b - 1]) for a, b in couples_of(word)], plain.far_couples(row))

    def test_couples_of_word(self):
        for length in range(8):
            for word in plain.words(length):
                self.check_kinds(couples_of_word(word), couples_of(word))
        for word in LONG_WORDS:
            self.check_kinds(couples_of_word(word), couples_of(word))

    def test_words_of_all_rows_of_a_length(self):
        for n in range(8):
            found = {word_of(row) for row in permutations(range(n))}
            self.assertEqual(sorted(found), list(every_word(n)))

    def test_the_word_tells_the_class(self):
        for n in range(6):
            for rows in plain.classes(range(n)):
                self.assertEqual(len({word_of(row) for row in rows}), 1)


class Plainest(MillTest):

    def test_examples(self):
        self.check_kinds(plainest("U-D-", (1, 2, 3, 4)), (4, 2, 1, 3))
        self.check_kinds(plainest("UUDD", [4, 3, 2, 1]), (2, 4, 1, 3))

    def blocks(self, word, stones):
        """The plainest row by the words of [19]."""
        stones = sorted(stones)
        plain_stones = [stone for stone, sign in zip(stones, word) if sign == "-"]
        couples = [(stones[a - 1], stones[b - 1]) for a, b in couples_of(word)]
        row = []
        for i in range(len(couples), -1, -1):
            below = couples[i][0] if i < len(couples) else TOP + 1
            above = couples[i - 1][0] if i > 0 else -TOP - 1
            marked = [stone for stone in plain_stones if above < stone < below]
            split = couples[i - 1][1] if i > 0 else -TOP - 1
            row += sorted([stone for stone in marked if stone > split], reverse=True)
            row += sorted([stone for stone in marked if stone < split])
            row += list(couples[i - 1]) if i > 0 else []
        return tuple(row)

    def test_all_short_words(self):
        for length in range(9):
            stones = [at * at - 7 for at in range(length)]
            for word in plain.words(length):
                row = plainest(word, tuple(stones[::-1]))
                self.check_kinds(row, self.blocks(word, stones))
                self.assertEqual(word_of(row), word)

    def test_long_words(self):
        for word in LONG_WORDS:
            stones = support.shuffled(range(-TOP, len(word) - TOP), 7)
            row = plainest(word, list(stones))
            self.check_kinds(row, self.blocks(word, stones))
            self.assertEqual(word_of(row), word)

    def test_the_order_of_the_stones_means_nothing(self):
        for stones in permutations((3, 5, 8, 13)):
            self.check_kinds(plainest("U-D-", stones), (13, 5, 3, 8))

    def test_invalid_word_before_invalid_row_and_the_length_last(self):
        self.check_error(InvalidWord("DU"), plainest, "DU", None)
        self.check_error(InvalidWord("DU"), plainest, "DU", (1, 2, 3))
        self.check_error(InvalidRow((1, 1)), plainest, "UD--", (1, 1))
        self.check_error(InvalidRow(None), plainest, "UD", None)
        for stones in ((), (1,), [1, 2, 3], tuple(range(40))):
            self.check_error(InvalidWord("UD"), plainest, "UD", stones)
        self.check_error(InvalidWord(""), plainest, "", (1,))


class Counts(MillTest):

    def test_count_words(self):
        self.assertEqual([count_words(n) for n in range(9)], [1, 1, 2, 4, 9, 21, 51, 127, 323])
        for n in range(9):
            words = plain.words(n)
            self.check_kinds(count_words(n), len(words))
            self.check_kinds(count_words(n, couples=None), len(words))
            for r in range(61):
                self.check_kinds(
                    count_words(n, couples=r), len([word for word in words if word.count("U") == r]))

    def test_the_formula_up_to_the_limits(self):
        for n in (0, 1, 10, 11, 40, 41, 59, 60):
            expected = [
                factorial(n) // (factorial(n - 2 * r) * factorial(r) * factorial(r + 1))
                for r in range(n // 2 + 1)
            ]
            self.check_kinds(count_words(n), sum(expected))
            for r in range(61):
                self.check_kinds(count_words(n, couples=r), expected[r] if r < len(expected) else 0)

    def test_limits_of_lengths(self):
        for function, most in ((count_words, 60), (count_stuck, 60), (every_word, 10)):
            for length in (most + 1, 61, 62, 10**5000, -1):
                self.check_error(InvalidNumber(length), function, length)
        for length in (41, 60, 61, -1):
            self.check_error(InvalidNumber(length), word_at, length, 0)
        self.check_kinds(word_at(40, 0), "-" * 40)
        for couples in (-1, 61, True, False, 1.0, "1"):
            self.check_error(InvalidNumber(couples), count_words, 60, couples=couples)
        self.check_error(InvalidNumber(61), count_words, 61, couples=None)
        self.check_error(InvalidNumber(61), count_words, 61, couples=62)

    def test_recursion_of_the_counts(self):
        # Each word begins with a plain sign, or with U, a word, D and another word.
        for n in range(2, 61):
            pairs = sum(count_words(k) * count_words(n - 2 - k) for k in range(n - 1))
            self.assertEqual(count_words(n), count_words(n - 1) + pairs)

    def test_stuck_rows(self):
        for n in range(8):
            stuck = 0
            for row in permutations(range(n)):
                word = word_of(row)
                level = [word[:at].count("U") == word[:at].count("D") for at in range(n) if word[at] == "-"]
                self.assertIs(tame_places(row) == [], all(level))
                stuck += all(level)
            self.check_kinds(count_stuck(n), stuck)

    def test_count_stuck(self):
        for n in range(61):
            half = n // 2
            self.check_kinds(count_stuck(n), factorial(n) // (factorial(half) * factorial(n - half)))


class Order(MillTest):

    def test_every_word(self):
        for n in range(11):
            words = list(every_word(n))
            self.assertEqual(words, sorted(words))
            self.assertEqual(len(words), count_words(n))
            if n < 9:
                self.check_kinds(words, plain.words(n))
        self.check_kinds(list(every_word(0)), [""])
        self.assertEqual(list(every_word(3)), ["---", "-UD", "U-D", "UD-"])

    def test_errors_come_when_the_first_word_is_asked_for(self):
        for length in (11, None):
            words = every_word(length)
            self.check_error(InvalidNumber(length), next, words)

    def test_word_index_and_word_at(self):
        for n in range(9):
            for index, word in enumerate(plain.words(n)):
                self.check_kinds(word_index(word), index)
                self.check_kinds(word_at(n, index), word)
        self.assertEqual(word_index("UUDD"), 8)

    def test_first_and_last_index(self):
        for n in range(41):
            last = count_words(n) - 1
            self.check_kinds(word_at(n, 0), "-" * n)
            self.check_kinds(word_at(n, last), "U" * (n // 2) + "D" * (n // 2) + "-" * (n % 2))
            self.check_kinds(word_index(word_at(n, last)), last)
            for index in (-1, last + 1):
                self.check_error(InvalidNumber(index), word_at, n, index)

    def test_the_last_word(self):
        for n in range(9):
            self.assertEqual(word_at(n, count_words(n) - 1), max(plain.words(n)))

    def test_long_words(self):
        for word in LONG_WORDS:
            self.check_kinds(word_at(len(word), word_index(word)), word)
        many = count_words(40)
        for part in range(50):
            index = many * part // 50
            self.check_kinds(word_index(word_at(40, index)), index)
        indexes = [word_index(word) for word in sorted(LONG_WORDS) if len(word) == 40]
        self.assertEqual(indexes, sorted(indexes))

    def test_far_couples_of_a_word_are_its_couples(self):
        for word in LONG_WORDS:
            row = plainest(word, list(range(1, len(word) + 1)))
            self.assertEqual(far_couples(row), couples_of_word(word))
