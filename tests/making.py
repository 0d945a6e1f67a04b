"""Circles of a wanted size or depth."""

from pooledeyes.circles import common, eye, pool


def names_to(many):
    """So many different names, of one letter and then of two."""
    letters = "abcdefghijklmnopqrstuvwxyz"
    names = list(letters) + [first + second for first in letters for second in letters]
    return names[:many]


def eyes_to(many):
    """So many different eyes."""
    return [eye(name) for name in names_to(many)]


def deepened(circle, many):
    """The circle, put so many times into a pool and a common in turn, with one more eye each time."""
    for name in names_to(many):
        makers = {"eye": pool, "pool": common, "common": pool}
        circle = makers[circle.kind](circle, eye("z" + name))
    return circle


def deep_text(many):
    """The text of a circle of this depth, 1 or more, also above the bound."""
    text = "a"
    for at in range(many):
        sign = "&|"[at & 1]
        text = f"({text}) {sign} z" if at else f"a {sign} z"
    return text
