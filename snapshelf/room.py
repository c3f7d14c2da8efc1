"""What comes free with some roots, and a paper of it."""

from snapshelf.trees import found_by


def chosen_and_others(roots, chosen):
    """The places of the chosen roots, and those of the others, as a pair of lists."""
    others = [place for number, place in enumerate(roots) if number not in chosen]
    return ([roots[number] for number in chosen], others)


def frees(blocks, roots, chosen):
    """The places that are come to from the chosen roots and from no other, rising."""
    picked, others = chosen_and_others(roots, chosen)
    staying = found_by(blocks, others)
    return [place for place in sorted(found_by(blocks, picked)) if place not in staying]


def room_paper(blocks, roots, chosen):
    """Rows of a place, what it is come to by, and the way on which it stays, or ()."""
    picked, others = chosen_and_others(roots, chosen)
    by = found_by(blocks, picked)
    staying = found_by(blocks, others)
    return [(place, by[place], way_to(staying, place)) for place in by]


def way_to(staying, place):
    """The row of places from a root that stays to the place, or () where it doesn't stay."""
    way = []
    at = place if place in staying else 0
    while at != 0:
        way.append(at)
        at = staying[at]
    return tuple(reversed(way))
