"""The checker of a mend's paper."""

from snapshelf.sums import is_right
from snapshelf.values import is_number

BOTH_WHOLE = 0
FIRST_MENDED = 1
SECOND_MENDED = 2
NONE_WHOLE = 3


def mend_holds(paper, ahead, behind, spots):
    """Whether it, whatever is handed in, is a paper of a mend that holds with the cells ahead and behind."""
    fates = [(spot, fate_of(spot, content, ahead[0][spot], ahead[1][spot])) for spot, content in spots]
    if not is_mend_paper(paper) or paper != fates:
        return False
    first, second = list(ahead[0]), list(ahead[1])
    for spot, fate in fates:
        if fate == FIRST_MENDED:
            first[spot] = second[spot]
        if fate == SECOND_MENDED:
            second[spot] = first[spot]
    return are_same(first, behind[0]) and are_same(second, behind[1])


def is_mend_paper(paper):
    """Whether it is a list of pairs of numbers."""
    if not isinstance(paper, list):
        return False
    for row in paper:
        if not isinstance(row, tuple) or len(row) != 2 or not all(is_number(part) for part in row):
            return False
    return True


def fate_of(spot, content, first, second):
    """The fate of a spot with these two cells, which is to have that content, or None where it isn't known."""
    due = content
    # Where it isn't known, it is what the disk's read would tell.
    if due is None and is_right(spot, first):
        due = first[1]
    elif due is None and is_right(spot, second):
        due = second[1]
    first_whole = is_right(spot, first) and first[1] == due
    second_whole = is_right(spot, second) and second[1] == due
    if first_whole:
        return BOTH_WHOLE if second_whole else SECOND_MENDED
    return FIRST_MENDED if second_whole else NONE_WHOLE


def are_same(one, other):
    """Whether the two are the same throughout, True not being 1, nor False 0."""
    if isinstance(one, bool) or isinstance(other, bool):
        return isinstance(one, bool) and isinstance(other, bool) and one == other
    if isinstance(one, list) and isinstance(other, list) or isinstance(one, tuple) and isinstance(other, tuple):
        return len(one) == len(other) and all(are_same(first, second) for first, second in zip(one, other))
    if isinstance(one, dict) and isinstance(other, dict):
        return len(one) == len(other) and all(has_pair(other, key, one[key]) for key in one)
    return one == other


def has_pair(pairs, key, value):
    """Whether the dict has that very key with that very value."""
    return any(are_same(key, each) and are_same(value, pairs[each]) for each in pairs)
