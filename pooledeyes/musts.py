"""What circles must tell under books, found by closed frames."""

from pooledeyes.circles import eye
from pooledeyes.closings import closed_world
from pooledeyes.errors import CommonShown
from pooledeyes.frames import Frame, ROUNDS, check_frame


def closed_frame(book, t):
    """The closed frame of t under a book."""
    return closed_world(Frame(t).world(), book)


def must_tell(book, t, s):
    """Whether t must tell s under a book."""
    return closed_frame(book, t).alike(s, 1, 2)


def told_among(book, t, circles):
    """The ascending list of the indexes of the circles of a list that t must tell under a book."""
    closed = closed_frame(book, t)
    return [at for at, circle in enumerate(circles) if closed.alike(circle, 1, 2)]


def follows(book, circle, name):
    """Whether the grant of a circle and a name follows from a book."""
    return must_tell(book, circle, eye(name))


def follows_from_others(book, at):
    """Whether the grant with an index follows from the others of the book."""
    rest = book.without(at)
    circle, name = book.grants()[at]
    return follows(rest, circle, name)


def lean(book):
    """The lean book of a book."""
    kept = book
    for at in range(len(book) - 1, -1, -1):
        if follows_from_others(kept, at):
            kept = kept.without(at)
    return kept


def books_alike(first, second):
    """Whether each grant of each of two books follows from the other one."""
    return unlike_grant(first, second) is None


def unlike_grant(first, second):
    """The pair that names the first grant of two books that does not follow from the other one, None if all do."""
    check_frames(first)
    check_frames(second)
    for which, (book, other) in enumerate([(first, second), (second, first)]):
        for at, (circle, name) in enumerate(book.grants()):
            if not follows(other, circle, name):
                return which, at
    return None


def grants_for(circle, shown):
    """The list of the grants that show a circle all that an eye or a pool of eyes sees."""
    sources = shown.parts() if shown.kind == "pool" else [shown]
    if not all([source.kind == "eye" for source in sources]):
        raise CommonShown(0)
    return [(circle, source.name) for source in sources]


def check_frames(book):
    """Refuse a book with a grant whose circle has a frame with too many ties."""
    for circle, _ in book.grants():
        check_frame(circle, ROUNDS, 0)
