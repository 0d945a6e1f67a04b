"""Lots of grants that bring that one circle must tell another one."""

from pooledeyes.closings import closed_world
from pooledeyes.errors import TooMany
from pooledeyes.frames import Frame
from pooledeyes.musts import must_tell

MOST_LOOKED_THROUGH = 8


def least_lots(book, t, s):
    """The list of all least lots of grants that bring that t must tell s, by size."""
    check_looking(book)
    frame = Frame(t).world()
    return least_rows(len(book), lambda lot: closed_world(frame, book.only(lot)).alike(s, 1, 2))


def brings(book, lot, t, s):
    """Whether a lot of grants brings that t must tell s."""
    return must_tell(book.only(lot), t, s)


def check_looking(book):
    """Refuse a book with too many grants for looking through all lots of them."""
    if len(book) > MOST_LOOKED_THROUGH:
        raise TooMany("grants", MOST_LOOKED_THROUGH)


# What is below holds for lots of whatever has indexes, not of grants alone.


def all_rows(many):
    """The list of all ascending tuples of indexes below many, by size."""
    row = [()]
    found = []
    while row:
        found.extend(row)
        row = [lot + (at,) for lot in row for at in range(many) if lot == () or at > lot[-1]]
    return found


def least_rows(many, holds):
    """The list of the least rows of indexes below many that hold, by size; with more indexes a row holds still."""
    if not holds(tuple(range(many))):
        return []
    found = []
    for row in all_rows(many):
        if not has_some(row, found) and holds(row):
            found.append(row)
    return found


def greatest_without(many, rows):
    """The list of the greatest rows of indexes below many that have none of some rows in them, by size."""
    left = [row for row in all_rows(many) if not has_some(row, rows)]
    return [row for row in left if not any([row != other and is_part(row, other) for other in left])]


def has_some(row, others):
    """Whether one of some other rows is in a row."""
    return any([is_part(other, row) for other in others])


def is_part(row, other):
    """Whether all items of a row are in another one."""
    return all([item in other for item in row])
