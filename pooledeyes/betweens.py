"""Circles between two circles of which one always tells the other one."""

from pooledeyes.descents import tells
from pooledeyes.puts import put_out


def circle_between(t, s):
    """A circle with common eyes of t and s that t always tells and that always tells s, None if there is none."""
    if not tells(t, s):
        return None
    shared = s.eyes()
    return put_out(t, [name for name in t.eyes() if name not in shared], "pool")
