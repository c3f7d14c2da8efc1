"""Things made by a stock."""

from snapshelf.blocks import BUNDLE, branch_content, file_content, folder_content, height_of, leaf_content
from snapshelf.names import code_of
from snapshelf.things import is_folder


def made(stock, thing):
    """A place at which the thing stands; Full."""
    if is_folder(thing):
        return stock.place_for(folder_content({code_of(name): made(stock, inner) for name, inner in thing[1]}))
    leaves = [stock.place_for(leaf_content(leaf)) for leaf in thing[1]]
    return stock.place_for(file_content(len(leaves), bundled(stock, leaves, [])))


def kept_place(stock, place, content):
    """The place itself where that content is at it already, else a place for it."""
    if stock.content(place) == content:
        return place
    return stock.place_for(content)


def bundled(stock, leaves, elder):
    """The places that a file with these leaves' places has itself.

    elder has the levels of the file as it was, the leaves' first: a branch that is as it was keeps its place.
    """
    level = leaves
    for number in range(1, height_of(len(leaves))):
        branches = elder[number] if number < len(elder) else []
        level = level_above(stock, level, branches)
    return level


def level_above(stock, places, branches):
    """The places of the branches that bundle these places; those branches were there."""
    above = []
    for at in range(0, len(places), BUNDLE):
        content = branch_content(places[at:at + BUNDLE])
        if len(above) < len(branches):
            above.append(kept_place(stock, branches[len(above)], content))
        else:
            above.append(stock.place_for(content))
    return above
