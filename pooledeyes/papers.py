"""Papers, which show that a circle must tell another one or need not, and that a guard's book is safe or not."""

from pooledeyes.closings import closed_by, closing_log, log_shows
from pooledeyes.errors import NotSafe
from pooledeyes.frames import Frame, ROUNDS, many_ties
from pooledeyes.words import is_number
from pooledeyes.worlds import World


def paper_for(book, t, s):
    """A paper for a book and two circles."""
    log, closed = closed_by(Frame(t).world(), book.grants())
    if closed.alike(s, 1, 2):
        return "told", log
    return "untold", closed, 1, 2


def is_paper(book, t, s, value):
    """Whether any value is a paper for a book and two circles."""
    if not isinstance(value, tuple):
        return False
    if len(value) == 2 and value[0] == "told":
        return frame_shows(book, t, s, value[1])
    if len(value) != 4 or value[0] != "untold":
        return False
    _, world, u, v = value
    if not isinstance(world, World) or not is_number(u, 1, world.many) or not is_number(v, 1, world.many):
        return False
    return world.alike(t, u, v) and not world.alike(s, u, v) and book.kept_by(world)


def frame_shows(book, t, s, log):
    """Whether any value is a log of the frame of t under a book, behind which the ends are alike to s."""
    if many_ties(t, ROUNDS, 0) > Frame.LIMIT:
        return False
    return log_shows(Frame(t).world(), book, log, s, 1, 2)


def guard_paper(guard):
    """A guard paper."""
    try:
        return "safe", guard.one_world()
    except NotSafe as error:
        at = error.at
    circle, _ = guard.bans()[at]
    return "broken", at, closing_log(Frame(circle).world(), guard.book)


def is_guard_paper(guard, value):
    """Whether any value is a guard paper."""
    if not isinstance(value, tuple):
        return False
    bans = guard.bans()
    if len(value) == 2 and value[0] == "safe":
        return isinstance(value[1], World) and world_guards(value[1], guard.book, bans)
    if len(value) != 3 or value[0] != "broken":
        return False
    _, at, log = value
    if not is_number(at, 0, len(bans) - 1):
        return False
    circle, told = bans[at]
    return frame_shows(guard.book, circle, told, log)


def world_guards(world, book, bans):
    """Whether a world keeps a book and shows for each ban that it is not broken."""
    return book.kept_by(world) and not any([world.tells(circle, told) for circle, told in bans])
