"""Circles of a wanted size or depth."""

import functools

from pooledeyes.circles import common, eye, pool


def names_to(many):
    """So many different names, of one letter and then of two."""
    letters = "abcdefghijklmnopqrstuvwxyz"
    names = list(letters) + [first + second for first in letters for second in letters]
    return names[:many]


def eyes_to(many):
    """So many different eyes."""
    return [eye(name) for name in names_to(many)]


def deepened(circle, many):
    """The circle, put so many times into a pool and a common in turn, with one more eye each time."""
    for name in names_to(many):
        makers = {"eye": pool, "pool": common, "common": pool}
        circle = makers[circle.kind](circle, eye("z" + name))
    return circle


def deep_text(many):
    """The text of a circle of this depth, 1 or more, also above the bound."""
    text = "a"
    for at in range(many):
        sign = "&|"[at & 1]
        text = f"({text}) {sign} z" if at else f"a {sign} z"
    return text


def with_ties(many):
    """A circle of which the frame has so many ties."""
    return circle_of_ties(many, iter(eyes_to(60)))


def circle_of_ties(many, fresh):
    """A circle with so many ties, of the next fresh eyes; it is no common if many is odd."""
    if many == 1:
        return next(fresh)
    if many == 2 or many % 2 == 1:
        return pool(next(fresh), circle_of_ties(many - 1, fresh))
    # A common has twice the ties of its parts, and the last part is to have an odd number of them.
    half = many // 2
    eyes = [next(fresh)] if half % 2 == 0 else [next(fresh), next(fresh)]
    return common(*eyes, circle_of_ties(half - len(eyes), fresh))


def to_depth(depth, size):
    """A circle of so many different written eyes and of this depth."""
    names = eyes_to(size)
    circle = names[0]
    for at in range(1, depth):
        circle = (pool if at % 2 else common)(circle, names[at])
    return (pool if depth % 2 else common)(circle, *names[depth:])


@functools.lru_cache(maxsize=None)
def all_circles(names, most):
    """All circles of at most so many written eyes, with these names, whose parts stand in ascending order of texts."""
    found = {1: [eye(name) for name in names]}
    for size in range(2, most + 1):
        found[size] = []
        for maker, kind in [(pool, "pool"), (common, "common")]:
            inner = sorted((part for row in found.values() for part in row if part.kind != kind), key=str)
            found[size] += [maker(*parts) for parts in part_rows(inner, size) if len(parts) > 1]
    return [circle for size in found for circle in found[size]]


def part_rows(circles, size):
    """All lists of circles, in their order, that have so many written eyes together."""
    if size == 0:
        return [[]]
    return [[circle] + rest for at, circle in enumerate(circles) if circle.size <= size
            for rest in part_rows(circles[at + 1:], size - circle.size)]
