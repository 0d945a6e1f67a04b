"""Values of all kinds, for what judges or refuses any value."""

from pooledeyes.books import Book
from pooledeyes.circles import common, eye, pool
from pooledeyes.errors import InvalidName
from pooledeyes.frames import Frame
from pooledeyes.guards import Guard
from pooledeyes.office import Office
from pooledeyes.plans import Plan
from pooledeyes.sights import Sights
from pooledeyes.sketches import Sketch
from pooledeyes.stretches import Stretch
from pooledeyes.worlds import World

OTHERS = [
    None, True, False, 0, 1, -1, 7, 60, 999999999,
    (), [], ("a",), ["a"], ("a", "b"), (1, 2), [None, True], ((("a",),),), [[[[["a"]]]]],
    (True,), [False, ("a", 1)], {}, {"a": 1}, b"a", InvalidName("a"),
]
STRINGS = [
    "", " ", "\n", "a", "abcdef", "abcdefg", "A", "aB", "a1", "1", "a b", "a ", " a", "a\n", "a_b", "a-b",
    "`", "{", "@", "[", "&", "|", "(", ")", "a & b", "a|b", "(a)", "a" * 12000,
]


def some_circles():
    """New circles of each kind."""
    return [eye("a"), pool(eye("a"), eye("b")), common(eye("a"), pool(eye("b"), eye("c")))]


def some_worlds():
    """New worlds."""
    return [World(1), World(3, [("a", 1, 2)])]


def some_books():
    """New books, of which one has no grants."""
    return [Book(), Book((eye("a"), "b"), (pool(eye("a"), eye("b")), "c"))]


def some_things():
    """New objects of the package that are neither circles nor errors."""
    return some_worlds() + some_books() + [
        Frame(eye("a")), Stretch(World(2)), Sights(World(1), ["a"]), Guard(Book()), Guard(Book(), (eye("a"), eye("b"))),
        Plan(), Plan(("learns", "a", eye("b"))), Sketch(1), Sketch(2, ("alike", eye("a"), 1, 2)), Office()]


def without_strings():
    """Values of all kinds but strings."""
    return OTHERS + some_circles() + some_things()


def without_circles():
    """Values of all kinds but circles."""
    return OTHERS + STRINGS + some_things()


def any_values():
    """Values of all kinds."""
    return without_circles() + some_circles()


def but_numbers(least, most):
    """Values of all kinds but the numbers from least to most, with the numbers beside these."""
    return [value for value in any_values() + [least - 1, most + 1] if not is_plain_number(value, least, most)]


def but_names():
    """Values of all kinds but names."""
    return [value for value in any_values() if not isinstance(value, str) or value not in ("a", "abcdef")]


def is_plain_number(value, least, most):
    """Whether a value is an integer from least to most and no boolean."""
    return isinstance(value, int) and not isinstance(value, bool) and least <= value <= most
