"""Values that several test files use."""

EMPTY = ("folder", ())


def nested(depth, one):
    """A list within a list, so many times, and the value in the innermost."""
    for level in range(depth):
        one = [one]
    return one


# What may be handed in as whatever it is; no name, path text, leaf, thing, deed, view text, block or cell.
WHATEVER = (
    None, True, False, -1, 10 ** 30, -(10 ** 30), "~", " ", "\n", "A", "a b", "a\n", "a1",
    [], ["a"], [[]], [()], {}, {"a": 1}, {1: ()}, ("a", 1, None), ((),), (None,), (True, False), (-1,), (256,),
    ("file",), ("folder",), ("file", []), ("folder", []), ("file", None), ("folder", {}), ("leaf", ()),
    ["file", ()], ["folder", ("a",)], [0], [1, 5], ([], []), ({}, ()), ([],), ({},), (("a",), ("folder", ())),
    nested(29, 7), nested(29, "a"), (nested(28, ()), ()),
)


def folder(**things):
    """A folder of these things, given with their names in the order of the codes."""
    return ("folder", tuple(things.items()))


def file(*leaves):
    """A file of these leaves."""
    return ("file", tuple(leaves))


def chain(names, last):
    """A thing below one folder for each of the names."""
    for name in reversed(names):
        last = ("folder", ((name, last),))
    return last


def refusal(call, *args):
    """The name of the class of what the call refuses with, or None if it answers."""
    try:
        call(*args)
    except ValueError as error:
        return error.__class__.__name__
    return None
