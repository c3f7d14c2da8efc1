"""Sums of contents at their spots, and cells."""

from snapshelf.values import is_content, is_number

MODULUS = 2147483647


def sum_of(spot, content):
    """The sum of the content at the spot."""
    total = spot + 1
    for number in content:
        total = (total * 65599 + number + 1) % MODULUS
    return total


def cell_of(spot, content):
    """The right cell with that content at the spot."""
    return (sum_of(spot, content), content)


def is_right(spot, cell):
    """Whether the cell, whatever is handed in, is right at the spot."""
    if not isinstance(cell, tuple) or len(cell) != 2:
        return False
    # True would pass for a sum of 1 if it were only compared.
    if not is_number(cell[0]) or not is_content(cell[1]):
        return False
    return cell[0] == sum_of(spot, cell[1])
