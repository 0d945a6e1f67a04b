"""Values of all kinds, for what judges or refuses any value."""

from pooledeyes.circles import common, eye, pool
from pooledeyes.errors import InvalidName

OTHERS = [
    None, True, False, 0, 1, -1, 7, 60, 999999999,
    (), [], ("a",), ["a"], ("a", "b"), (1, 2), [None, True], ((("a",),),), [[[[["a"]]]]],
    (True,), [False, ("a", 1)], {}, {"a": 1}, b"a", InvalidName("a"),
]
STRINGS = [
    "", " ", "\n", "a", "abcdef", "abcdefg", "A", "aB", "a1", "1", "a b", "a ", " a", "a\n", "a_b", "a-b",
    "`", "{", "@", "[", "&", "|", "(", ")", "a & b", "a|b", "(a)", "a" * 12000,
]


def some_circles():
    """New circles of each kind."""
    return [eye("a"), pool(eye("a"), eye("b")), common(eye("a"), pool(eye("b"), eye("c")))]


def without_strings():
    """Values of all kinds but strings."""
    return OTHERS + some_circles()


def without_circles():
    """Values of all kinds but circles."""
    return OTHERS + STRINGS


def any_values():
    """Values of all kinds."""
    return OTHERS + STRINGS + some_circles()
