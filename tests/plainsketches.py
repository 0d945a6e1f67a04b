"""A second, plain way to fill sketches, and random sketches."""

import itertools

from pooledeyes.books import Book
from pooledeyes.circles import eye
from pooledeyes.sketches import Sketch
from tests.plainbooks import plain_closing
from tests.plainframes import plain_laid
from tests.plainworlds import plain_relation, random_circle
from tests.test_books import random_book


def plain_bare(many, sayings):
    """The pair of the number of cases and the ties of the bare filling."""
    numbers = itertools.count(many + 1)
    ties = []
    for word, circle, u, v in sayings:
        if word == "alike":
            ties += plain_laid(circle, u, v, numbers)
    return next(numbers) - 1, ties


def plain_filling(many, sayings, grants):
    """The pair of the number of cases and the ties of the filling."""
    cases, ties = plain_bare(many, sayings)
    return cases, plain_closing(cases, ties, grants)[1]


def plain_broken(many, sayings, grants):
    """The index of the first unlike saying whose cases are alike in the filling, None if there is none."""
    cases, ties = plain_filling(many, sayings, grants)
    for at, (word, circle, u, v) in enumerate(sayings):
        if word == "unlike" and (u, v) in plain_relation(cases, ties, circle):
            return at
    return None


def random_saying(source, many, size, words=("alike", "alike", "unlike")):
    """A saying on so many cases with a circle of at most so many written eyes."""
    return (source.choice(words), random_circle(source, size), source.randint(1, many), source.randint(1, many))


def random_sketch(source, cases=4, sayings=4, size=2, grants=2):
    """A sketch with at most so many cases, sayings and grants."""
    many = source.randint(1, cases)
    said = [random_saying(source, many, size) for _ in range(source.randint(0, sayings))]
    return Sketch(many, *said, under=random_book(source, grants))


def sketch_read_off(source, world, grants, most=5, size=3):
    """A sketch of what stands in a world, under a book that the world keeps; grants are looked through for it."""
    kept = [(circle, name) for circle, name in grants if world.tells(circle, eye(name))]
    many = source.randint(1, min(world.many, 8))
    said = []
    for _ in range(source.randint(0, most)):
        circle, u, v = random_circle(source, size), source.randint(1, many), source.randint(1, many)
        said.append(("alike" if world.alike(circle, u, v) else "unlike", circle, u, v))
    return Sketch(many, *said, under=Book(*kept))
