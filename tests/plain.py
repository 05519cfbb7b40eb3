"""The document's definitions, word by word and without any thought of speed."""

from itertools import permutations, product

LETTERS = "lbh"


def couple_at(row, place):
    """The lighter and the heavier neighbour at a place."""
    return min(row[place], row[place + 1]), max(row[place], row[place + 1])


def kind_of(row, place, index):
    """The kind of the third stone at an index [5]."""
    x, y = couple_at(row, place)
    letter = "l" if row[index] < x else "h" if row[index] > y else "b"
    return letter + "-" if index < place else "-" + letter


def kinds_of(row, place):
    """The set of the kinds of the third stones at a place [5]."""
    return {kind_of(row, place, index) for index in range(len(row)) if index not in (place, place + 1)}


def kinds_in(text):
    """The set of the kinds that the house with this text names [6]."""
    before, behind = text.split("-")
    return {letter + "-" for letter in before} | {"-" + letter for letter in behind}


def house_texts():
    """The texts of all houses in ascending order of their numbers [6]."""
    sides = ["".join(letter for at, letter in enumerate(LETTERS) if bits >> at & 1) for bits in range(8)]
    return [before + "-" + behind for behind in sides for before in sides if before + behind]


def is_free(row, place, text):
    """Tells whether a place is free under the house with this text [7]."""
    return bool(kinds_of(row, place) & kinds_in(text))


def is_tame(row, place):
    """Tells whether a place of a bag row is tame [11]."""
    x, y = couple_at(row, place)
    before, behind = row[:place], row[place + 2:]
    return x != y and (any(w <= x for w in before) or any(w >= y for w in behind))


def change(row, place):
    """The row with two neighbours exchanged."""
    stones = list(row)
    stones[place], stones[place + 1] = stones[place + 1], stones[place]
    return tuple(stones)


def distances(row, free):
    """For each row that comes of the row its distance, found by trying all changes."""
    found = {tuple(row): 0}
    queue = [tuple(row)]
    for present in queue:
        for place in range(len(present) - 1):
            following = change(present, place)
            if free(present, place) and following not in found:
                found[following] = found[present] + 1
                queue.append(following)
    return found


def classes(weights):
    """The classes of all bag rows of these weights, as the distances from one row of each."""
    left = set(permutations(weights))
    found = []
    while left:
        found.append(distances(min(left), is_tame))
        left -= set(found[-1])
    return found


def least_walk(first, second):
    """The first walk in dictionary order of the shortest tame ones, or None."""
    away = distances(second, is_tame)
    if tuple(first) not in away:
        return None
    walk = []
    present = tuple(first)
    while away[present] > 0:
        places = [place for place in range(len(present) - 1) if is_tame(present, place)]
        nearer = [place for place in places if away[change(present, place)] < away[present]]
        walk.append(nearer[0])
        present = change(present, nearer[0])
    return walk


def named(row):
    """The named stones of a bag row [12]."""
    return [(weight, list(row[:index + 1]).count(weight)) for index, weight in enumerate(row)]


def named_turned(first, second):
    """The turned pairs of named stones [12]."""
    one, other = named(first), named(second)
    return sorted(
        (lighter, heavier)
        for lighter in one for heavier in one
        if lighter[0] < heavier[0]
        and (one.index(lighter) < one.index(heavier)) != (other.index(lighter) < other.index(heavier))
    )


def rising(row):
    """The rising couples of a bag row [13]."""
    return sorted({(a, b) for at, a in enumerate(row) for b in row[at + 1:] if a < b})


def far_couples(row):
    """The far couples of a bag row [13]."""
    couples = rising(row)
    return [
        (x, y) for x, y in couples
        if not any(a <= x and b >= y and (a, b) != (x, y) for a, b in couples)
    ]


def reach(row):
    """The pairs of the weights and their reaches [15]."""
    pairs = []
    for k in sorted(set(row)):
        first = min(at for at, weight in enumerate(row) if weight <= k)
        behind = [weight for weight in row[first + 1:] if weight > k]
        pairs.append((k, max(behind) if behind else None))
    return pairs


def parting_couples(first, second):
    """All certificates that two bag rows part, in the order in which they are preferred [16]."""
    rows = (first, second)
    papers = []
    for holder in (0, 1):
        row, other = rows[holder], rows[1 - holder]
        for a, b in far_couples(row):
            if not any(c <= a and d >= b for c, d in far_couples(other)):
                low = min(at for at, weight in enumerate(row) if weight == a)
                high = max(at for at, weight in enumerate(row) if weight == b)
                papers.append((holder, (a, b), low, high))
    return papers


def bound_pairs(row):
    """The pairs of indexes whose stones stand in this order in all rows that come of the row."""
    stones = named(row)
    orders = [named(other) for other in distances(row, is_tame)]
    return [
        (i, j) for i in range(len(row)) for j in range(i + 1, len(row))
        if all(order.index(stones[i]) < order.index(stones[j]) for order in orders)
    ]


def words(length):
    """All words of the length in dictionary order [18]."""
    return ["".join(signs) for signs in product("-DU", repeat=length) if is_word("".join(signs))]


def is_word(text):
    """Tells whether a text of the signs is a word [18]."""
    begun = [text[:end] for end in range(len(text) + 1)]
    return all(part.count("D") <= part.count("U") for part in begun) and text.count("D") == text.count("U")


def bag_rows(weights):
    """All bag rows of these weights."""
    return sorted(set(permutations(weights)))


def bags(most):
    """Weights of bag rows of at most so many stones, each pattern of equal weights once."""
    found = []
    for stones in range(most + 1):
        for steps in product((0, 1), repeat=max(stones - 1, 0)):
            weights = [1] * min(stones, 1)
            for step in steps:
                weights.append(weights[-1] + step)
            found.append(tuple(weights))
    return found
