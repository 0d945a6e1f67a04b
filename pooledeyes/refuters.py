"""Worlds gone through in order, and the least one that refutes what a circle should tell."""

from pooledeyes.books import Book
from pooledeyes.errors import InvalidEyes, InvalidNumber, TooMany
from pooledeyes.partings import all_partings, split_pair
from pooledeyes.words import is_eye_row, is_number
from pooledeyes.worlds import world_with

MOST_WORLDS = 4000
MOST_CASES = 4
MOST_EYES = 8


def all_worlds(many, eyes):
    """All worlds of so many cases in which only the eyes of a list take cases for alike, in order."""
    check_number(many)
    if not is_eye_row(eyes, 0, MOST_EYES):
        raise InvalidEyes()
    names = list(eyes)
    check_worlds(many, names)
    for row in rows_of_partings(many, names):
        yield world_with(many, dict(zip(names, row)))


def least_refuter(t, s, *, under=None, most=3):
    """A tuple (world, u, v) with a least world that refutes t and s and keeps a book, None if there is none."""
    check_number(most)
    book = Book() if under is None else under
    names = sorted(set(t.eyes() + s.eyes() + book.eyes()))
    check_worlds(most, names)
    for many in range(1, most + 1):
        for row in rows_of_partings(many, names):
            world = world_with(many, dict(zip(names, row)))
            pair = split_pair(world.parting(t), world.parting(s))
            if pair is not None and book.kept_by(world):
                return (world,) + pair
    return None


def check_number(value):
    """Refuse a value that is no number of cases of worlds that are gone through."""
    if not is_number(value, 1, MOST_CASES):
        raise InvalidNumber(value)


def check_worlds(many, names):
    """Refuse so many cases and eyes if they have too many worlds."""
    choices = len(list(all_partings(many)))
    worlds = 1
    for _ in names:
        worlds = min(worlds * choices, MOST_WORLDS + 1)
    if worlds > MOST_WORLDS:
        raise TooMany("worlds", MOST_WORLDS)


def rows_of_partings(many, names):
    """The list of all rows of partings of so many cases, one for each name, the last one changing fastest."""
    partings = list(all_partings(many))
    rows = [()]
    for _ in names:
        rows = [row + (parting,) for row in rows for parting in partings]
    return rows
