"""Putting eyes out of circles."""

from pooledeyes.keys import key_of
from pooledeyes.puts import put_out
from pooledeyes.worlds import check_names


def out(circle, *eyes, above=True):
    """The key of the circle with eyes put out, above or beneath, None if there is no such circle."""
    check_names(eyes)
    left = put_out(circle, eyes, "pool" if above else "common")
    if left is None:
        return None
    return key_of(left)
