"""The contents of the seals, read from carried rows of three or more stones [26]."""

from millbrook.far import far_of


def _answered(holds):
    """The content that says yes or no."""
    return ("yes",) if holds else ("no",)


def _before(row, stone):
    """The stones that stand before the stone."""
    return row[:row.index(stone)]


def _neighbours_in_weight(row):
    """The pairs of a stone and the next heavier one, in ascending order."""
    stones = sorted(row)
    return list(zip(stones, stones[1:]))


def blocks(row):
    """The blocks that begin at stones lighter than all before them, each in ascending order."""
    found = []
    for stone in row:
        if len(found) == 0 or stone < found[-1][0]:
            found.append([stone])
        else:
            found[-1].append(stone)
    # The stone that opens a block is the lightest of it, so it stays in front.
    return tuple([tuple(sorted(block)) for block in found])


def _heaviest_lighter_before(row):
    """For each stone in ascending order the heaviest lighter stone before it, or None."""
    return tuple([
        max([other for other in _before(row, stone) if other < stone], default=None)
        for stone in sorted(row)
    ])


def _far_couples(row):
    """The far couples in ascending order."""
    return tuple(far_of(row))


def turning_points(row):
    """The first stone and the new extremes, of those on one side in a row only the last."""
    notes = [row[0]]
    low = row[0]
    high = row[0]
    for stone in row[1:]:
        if low < stone < high:
            continue
        # The last note is the lowest or the highest stone so far, once it is not the first stone.
        if len(notes) > 1 and (stone < low) == (notes[-1] == low):
            notes[-1] = stone
        else:
            notes.append(stone)
        low = min(low, stone)
        high = max(high, stone)
    return tuple(notes)


def lows(row):
    """The stones that are lighter than all stones before them, in the order of the row."""
    return tuple([block[0] for block in blocks(row)])


def _before_lightest(row):
    """The stones before the lightest one, in ascending order."""
    return tuple(sorted(_before(row, min(row))))


def lightest_heavier_before(row):
    """For each stone in ascending order the lightest heavier stone before it, or None, up to the
    first that is the next heavier stone."""
    entries = []
    for stone, heavier in _neighbours_in_weight(row):
        entries.append(min([other for other in _before(row, stone) if other > stone], default=None))
        if entries[-1] == heavier:
            return tuple(entries)
    # No stone is heavier than the last one.
    return tuple(entries + [None])


def _behind_next_heavier(row):
    """In ascending order the stones that stand behind the next heavier stone."""
    return tuple([stone for stone, heavier in _neighbours_in_weight(row) if heavier in _before(row, stone)])


def _front(row):
    """The stone at the front."""
    return row[:1]


def _lightest_before_lightest(row):
    """The lightest stone before the lightest one, or None."""
    return (min(_before(row, min(row)), default=None),)


def _heaviest_before_lightest(row):
    """The heaviest stone before the lightest one, or None."""
    return (max(_before(row, min(row)), default=None),)


def _ascending_front(row):
    """How many stones at the front are the lightest ones in ascending order."""
    stones = sorted(row)
    many = 0
    while many < len(row) and row[many] == stones[many]:
        many += 1
    return (many,)


def _descending_lightest(row):
    """How many of the lightest stones stand in descending order, not always next to one another."""
    many = 1
    for stone, heavier in _neighbours_in_weight(row):
        if heavier not in _before(row, stone):
            break
        many += 1
    return (many,)


def _is_spiral(row):
    """Tells whether the stones before each place are those between its neighbours."""
    for place in range(len(row) - 1):
        lighter, heavier = sorted(row[place:place + 2])
        if sorted(row[:place]) != [stone for stone in sorted(row) if lighter < stone < heavier]:
            return False
    return True


def _spiral_side(row):
    """On which side the second stone of a spiral lies, or that the row is none."""
    if not _is_spiral(row):
        return ("none",)
    return ("lighter",) if row[1] < row[0] else ("heavier",)


def _lightest_in_front(row):
    """Whether the lightest stone is at the front."""
    return _answered(row[0] == min(row))


def _lightest_before_second(row):
    """Whether the lightest stone stands before the second lightest one."""
    return _answered(min(row) in _before(row, sorted(row)[1]))


def _lightest_before_heaviest(row):
    """Whether the lightest stone stands before the heaviest one."""
    return _answered(min(row) in _before(row, max(row)))


def _ascending(row):
    """Whether the row is ascending."""
    return _answered(list(row) == sorted(row))


def _middle_in_front(row):
    """Whether there are three stones and the middle one is at the front."""
    return _answered(len(row) == 3 and row[0] == sorted(row)[1])


def _middle_lightest_heaviest(row):
    """Whether there are three stones, in the order of the middle, the lightest and the heaviest one."""
    return _answered(len(row) == 3 and row[1] < row[0] < row[2])


def _nothing(row):
    """No entry, whatever the row is."""
    return row[:0]


# The contents of the sorts from 1 on.
_CONTENTS = (
    blocks, _heaviest_lighter_before, _far_couples, turning_points, lows, _before_lightest,
    lightest_heavier_before, _behind_next_heavier, _front, _lightest_before_lightest,
    _heaviest_before_lightest, _ascending_front, _descending_lightest, _spiral_side,
    _lightest_in_front, _lightest_before_second, _lightest_before_heaviest, _ascending,
    _middle_in_front, _middle_lightest_heaviest, _nothing, _nothing, _nothing,
)


def content_of(sort, row):
    """The content of the seal of a carried row, a tuple, under a house of this sort."""
    content = _CONTENTS[sort - 1]
    return content(row)
