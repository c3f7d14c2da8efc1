"""The deeds between two views."""

from snapshelf.blocks import kind_of, named_places
from snapshelf.trees import block_at, thing_of


class ViewReader:
    """Reads things by themselves."""

    def kind(self, thing):
        """Whether it is a file or a folder."""
        return thing[0]

    def inner(self, thing):
        """What is in a folder, by names in order."""
        return dict(thing[1])

    def leaves(self, thing):
        """The leaves of a file."""
        return thing[1]

    def alike(self, first, second):
        """Whether nothing is other between the two."""
        return first == second


class BlockReader:
    """Reads the things at places of blocks, without telling more of them than differs."""

    def __init__(self, blocks):
        self.memory = blocks
        self.known = {}

    def kind(self, place):
        """Whether it is a file or a folder."""
        return kind_of(block_at(self.memory, place))

    def inner(self, place):
        """The places of what is in a folder, by names in order."""
        return named_places(block_at(self.memory, place))

    def leaves(self, place):
        """The leaves of a file."""
        return thing_of(self.memory, place)[1]

    def alike(self, first, second):
        """Whether nothing is other between the things at the two places."""
        if first == second:
            return True
        # Two places may meet at very many paths, so what is known of them is kept.
        key = (first, second)
        if key not in self.known:
            self.known[key] = self.kind(first) == self.kind(second) and self.alike_inside(first, second)
        return self.known[key]

    def alike_inside(self, first, second):
        """Whether nothing is other between two files or between two folders."""
        if self.kind(first) == "file":
            return self.leaves(first) == self.leaves(second)
        ahead = self.inner(first)
        behind = self.inner(second)
        return list(ahead) == list(behind) and all(self.alike(ahead[name], behind[name]) for name in ahead)


def told_between(first, second):
    """The deeds that make the second view of the first."""
    return thing_between(ViewReader(), (), first, second)


def between(blocks, first, second):
    """The deeds that make the view at the second place of the one at the first; Lost."""
    return thing_between(BlockReader(blocks), (), first, second)


def thing_between(reader, path, first, second):
    """The deeds between two things of one kind at the path, the first None where there is nothing."""
    if first is not None and reader.alike(first, second):
        return []
    kind = reader.kind(second)
    deeds = [(kind, path)] if first is None else []
    if kind == "folder":
        deeds.extend(inner_between(reader, path, {} if first is None else reader.inner(first), reader.inner(second)))
    else:
        deeds.extend(leaves_between(path, () if first is None else reader.leaves(first), reader.leaves(second)))
    return deeds


def inner_between(reader, path, ahead, behind):
    """The deeds between what is in two folders at the path."""
    staying = {}
    for name in ahead:
        if name in behind and reader.kind(ahead[name]) == reader.kind(behind[name]):
            staying[name] = ahead[name]
    deeds = [("out", (*path, name)) for name in ahead if name not in staying]
    for name in behind:
        deeds.extend(thing_between(reader, (*path, name), staying.get(name), behind[name]))
    return deeds


def leaves_between(path, ahead, behind):
    """The deeds between the leaves of two files at the path."""
    deeds = []
    if len(ahead) > len(behind):
        deeds.append(("trim", path, len(behind)))
    for at, leaf in enumerate(behind):
        if at >= len(ahead) or ahead[at] != leaf:
            deeds.append(("put", path, at, leaf))
    return deeds
