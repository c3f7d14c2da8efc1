"""A disk in memory with two copies of each spot."""

from snapshelf.errors import Lost
from snapshelf.sums import cell_of, is_right
from snapshelf.values import copied


class Disk:
    """A disk with so many places, all its cells None at first."""

    def __init__(self, places):
        self.places = places
        self.cells = {}

    def look(self, copy, spot):
        """The content of that cell if it is right, else None."""
        cell = self.cells.get((copy, spot))
        return cell[1] if is_right(spot, cell) else None

    def read(self, spot):
        """The content of the first right copy, or Lost."""
        for copy in (0, 1):
            content = self.look(copy, spot)
            if content is not None:
                return content
        raise Lost()

    def write(self, copy, spot, content):
        """Make the cell right with that content."""
        self.cells[(copy, spot)] = cell_of(spot, content)

    def rot(self, copy, spot, cell):
        """Make the cell something that isn't right."""
        # A row may have lists in it, which whoever handed it in may still change.
        self.cells[(copy, spot)] = copied(cell)

    def cell(self, copy, spot):
        """The cell as it was put."""
        return copied(self.cells.get((copy, spot)))

    def twin(self):
        """Another disk like this one."""
        other = Disk(self.places)
        other.cells = {key: self.cells[key] for key in self.cells}
        return other
