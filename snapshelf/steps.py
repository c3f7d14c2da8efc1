"""Steps: puts and lines, done on a disk or cut off."""


def groups_of(steps):
    """The lists of puts between the lines."""
    groups = [[]]
    for step in steps:
        if step[0] == "line":
            groups.append([])
        else:
            groups[-1].append(step)
    return groups


def do_steps(disk, steps):
    """Do all puts on the disk."""
    for step in steps:
        if step[0] == "put":
            word, copy, spot, content = step
            disk.write(copy, spot, content)


def cut_steps(disk, steps, group, kept):
    """Do the groups ahead of that one, and of that one the kept puts in their order."""
    groups = groups_of(steps)
    for puts in groups[:group]:
        do_steps(disk, puts)
    do_steps(disk, [groups[group][number] for number in kept])
