"""The tally of a view."""

from snapshelf.viewtexts import told_view

MODULUS = 2305843009213693951


def tally_of(view):
    """The tally of the text that tells the view."""
    tally = 1
    for sign in told_view(view):
        tally = (tally * 257 + ord(sign) + 1) % MODULUS
    return tally
