"""The trees of the sorts 2, 4, 5 and 7: in each row of a class each stone stands behind its parent [28], [29].

All rows here are carried rows of three or more stones. A tree is a list of pairs of a parent and its stone.
"""

from millbrook.contents import lightest_heavier_before, lows, turning_points


def _search_tree(row):
    """Sort 2: the binary search tree into which the stones are inserted in the order of the row."""
    pairs = []
    for index, stone in enumerate(row[1:], start=1):
        lighter = max([other for other in row[:index] if other < stone], default=None)
        heavier = min([other for other in row[:index] if other > stone], default=None)
        # Of the two neighbours in weight the one inserted later is below the other one.
        parent = [other for other in row[:index] if other in (lighter, heavier)][-1]
        pairs.append((parent, stone))
    return pairs


def _noted_parent(notes, stone):
    """Sort 4: the note directly before the first one with which notes on both sides have been made."""
    begun = [notes[:index] for index in range(2, len(notes) + 1)]
    found = [part for part in begun if min(part) < stone < max(part)]
    return found[0][-2]


def _noted_tree(row):
    """Sort 4: the notes one behind the other, and the other stones behind notes."""
    notes = turning_points(row)
    others = [stone for stone in row if stone not in notes]
    return list(zip(notes, notes[1:])) + [(_noted_parent(notes, stone), stone) for stone in others]


def _low_tree(row):
    """Sort 5: the stones of the content one behind the other, the others behind the next lighter of them."""
    content = lows(row)
    others = [stone for stone in row if stone not in content]
    pairs = [(max([low for low in content if low < stone]), stone) for stone in others]
    return list(zip(content, content[1:])) + pairs


def small_and_big_chain(row):
    """Sort 7: the small stones and, each before the first stone that has it, the big ones that are entries."""
    found = []
    for small, entry in zip(sorted(row), lightest_heavier_before(row)):
        if entry is not None and entry not in found:
            found.append(entry)
        found.append(small)
    return found


def _small_and_big_forest(row):
    """Sort 7: the chain, and each other big stone behind the heaviest small stone that may not be behind it."""
    chain = small_and_big_chain(row)
    entries = list(zip(sorted(row), lightest_heavier_before(row)))
    pairs = list(zip(chain, chain[1:]))
    for big in [stone for stone in row if stone not in chain]:
        parents = [small for small, entry in entries if entry is None or entry > big]
        pairs += [(parent, big) for parent in parents[-1:]]
    return pairs


_TREES = {2: _search_tree, 4: _noted_tree, 5: _low_tree, 7: _small_and_big_forest}


def has_tree(sort):
    """Tells whether the classes of the sort are given by a tree."""
    return sort in _TREES


def tree_of(sort, row):
    """The pairs of a parent and its stone for a carried row under a house of the sort."""
    tree = _TREES[sort]
    return tree(row)
