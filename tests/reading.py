"""The table of the sorts and the contents of the seals, word by word as the document has them [24], [26]."""

from functools import lru_cache
from math import comb, factorial

from tests import plain


@lru_cache(maxsize=None)
def bell(n):
    """The numbers b(n) by their recursion."""
    return 1 if n == 0 else sum(bell(k) * comb(n - 1, k) for k in range(n))


def word_count(n):
    """The number of words of length n."""
    return sum(factorial(n) // (factorial(n - 2 * r) * factorial(r) * factorial(r + 1)) for r in range(n // 2 + 1))


def catalan(n):
    return factorial(2 * n) // (factorial(n) * factorial(n + 1))


# First house, number of houses, grade, and the number of classes of three or more stones.
TABLE = (
    ("l-", 4, "every", bell),
    ("b-", 2, "every", catalan),
    ("l-h", 2, "every", word_count),
    ("lh-", 2, "every", lambda n: 2**(n - 1)),
    ("lb-", 4, "every", lambda n: 2**(n - 1)),
    ("l-l", 2, "every", lambda n: 2**(n - 1)),
    ("b-l", 4, "none", lambda n: 2**(n - 1)),
    ("b-b", 1, "every", lambda n: 2**(n - 1)),
    ("lbh-", 2, "every", lambda n: n),
    ("lb-l", 4, "every", lambda n: n),
    ("lh-l", 4, "every", lambda n: n),
    ("bh-l", 4, "none", lambda n: n),
    ("lb-b", 4, "none", lambda n: n),
    ("lh-b", 2, "none", lambda n: 3),
    ("lbh-l", 4, "some", lambda n: 2),
    ("lb-lb", 2, "every", lambda n: 2),
    ("lh-lh", 1, "every", lambda n: 2),
    ("bh-lb", 2, "none", lambda n: 2),
    ("lbh-b", 2, "none", lambda n: 2 if n == 3 else 1),
    ("lh-lb", 4, "none", lambda n: 2 if n == 3 else 1),
    ("bh-lbh", 4, "none", lambda n: 1),
    ("lh-lbh", 2, "none", lambda n: 1),
    ("lbh-lbh", 1, "every", lambda n: 1),
)
CARRIES = ("same", "mirrored", "flipped", "both")


def turned_text(text, carry):
    """The text of the house after the operation of a carry."""
    before, behind = text.split("-")
    if carry in ("flipped", "both"):
        exchanged = {"l": "h", "b": "b", "h": "l"}
        before, behind = ("".join(sorted((exchanged[sign] for sign in side), key="lbh".index))
                          for side in (before, behind))
    if carry in ("mirrored", "both"):
        before, behind = behind, before
    return before + "-" + behind


def sort_and_carry(text):
    """The number of the sort and the carry of the house with this text."""
    firsts = [first for first, _, _, _ in TABLE]
    for carry in CARRIES:
        if turned_text(text, carry) in firsts:
            return firsts.index(turned_text(text, carry)) + 1, carry
    raise AssertionError(text)


def carried(row, carry):
    """The row after the operation of a carry."""
    if carry in ("flipped", "both"):
        stones = sorted(row)
        row = [stones[len(row) - 1 - stones.index(stone)] for stone in row]
    if carry in ("mirrored", "both"):
        row = list(row)[::-1]
    return tuple(row)


def yes(holds):
    return ("yes" if holds else "no",)


def sort_1(row):
    openers = [i for i in range(len(row)) if all(row[i] < other for other in row[:i])]
    ends = openers[1:] + [len(row)]
    return tuple((row[start], *sorted(row[start + 1:end])) for start, end in zip(openers, ends))


def sort_2(row):
    lighter = {stone: [other for other in row[:row.index(stone)] if other < stone] for stone in row}
    return tuple(max(lighter[stone]) if lighter[stone] else None for stone in sorted(row))


def sort_3(row):
    return tuple(plain.far_couples(row))


def sort_4(row):
    # New extremes with their sides; of neighbouring ones on one side only the last is kept.
    extremes = [(row[i], row[i] < min(row[:i])) for i in range(1, len(row))
                if row[i] < min(row[:i]) or row[i] > max(row[:i])]
    kept = [stone for (stone, side), (_, other) in zip(extremes, extremes[1:] + [(None, None)]) if side is not other]
    return (row[0], *kept)


def sort_5(row):
    return tuple(stone for i, stone in enumerate(row) if all(stone < other for other in row[:i]))


def sort_6(row):
    return tuple(sorted(row[:row.index(min(row))]))


def sort_7(row):
    stones = sorted(row)
    entries = []
    for at, stone in enumerate(stones):
        heavier = [other for other in row[:row.index(stone)] if other > stone]
        entries.append(min(heavier) if heavier else None)
    ends = [at for at in range(len(row) - 1) if entries[at] == stones[at + 1]]
    return tuple(entries[:ends[0] + 1] if ends else entries)


def sort_8(row):
    stones = sorted(row)
    return tuple(stone for stone, other in zip(stones, stones[1:]) if row.index(other) < row.index(stone))


def sort_9(row):
    return (row[0],)


def sort_10(row):
    before = row[:row.index(min(row))]
    return (min(before) if before else None,)


def sort_11(row):
    before = row[:row.index(min(row))]
    return (max(before) if before else None,)


def sort_12(row):
    return (max(r for r in range(len(row) + 1) if list(row[:r]) == sorted(row)[:r]),)


def sort_13(row):
    stones = sorted(row)
    return (max(k for k in range(1, len(row) + 1) if [x for x in row if x in stones[:k]] == stones[:k][::-1]),)


def sort_14(row):
    for i in range(len(row) - 1):
        x, y = plain.couple_at(row, i)
        if {stone for stone in row if x < stone < y} != set(row[:i]):
            return ("none",)
    return ("lighter" if row[1] < row[0] else "heavier",)


def sort_15(row):
    return yes(row[0] == min(row))


def sort_16(row):
    one, other = sorted(row)[:2]
    return yes(row.index(one) < row.index(other))


def sort_17(row):
    return yes(row.index(min(row)) < row.index(max(row)))


def sort_18(row):
    return yes(all(one < other for one, other in zip(row, row[1:])))


def sort_19(row):
    return yes(len(row) == 3 and row[0] == sorted(row)[1])


def sort_20(row):
    stones = sorted(row)
    return yes(len(row) == 3 and list(row) == [stones[1], stones[0], stones[2]])


def seal(row, text):
    """The seal of the row under the house with this text."""
    if len(row) < 3:
        return (0, tuple(row))
    sort, carry = sort_and_carry(text)
    return (sort, globals()[f"sort_{sort}"](carried(row, carry)) if sort <= 20 else ())
