"""A disk whose power was cut in a deed."""

from snapshelf.steps import cut_steps


def after_cut(disk, steps, group, kept):
    """A twin of the disk, with the steps cut in that group and those of its numbers kept."""
    other = disk.twin()
    cut_steps(other, steps, group, kept)
    return other
