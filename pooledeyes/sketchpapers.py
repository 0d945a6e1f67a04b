"""Papers, which show that sketches stand or not, and what their outlooks are."""

from pooledeyes.closings import closed_by, log_shows
from pooledeyes.frames import Frame
from pooledeyes.sketches import bare_world, broken_in, ties_of
from pooledeyes.words import is_number
from pooledeyes.worlds import World, check_cases


def sketch_paper(sketch):
    """A sketch paper."""
    log, filling = closed_by(sketch.bare(), sketch.book.grants())
    at = broken_in(filling, sketch.sayings())
    if at is None:
        return "stands", filling
    return "fails", at, log


def is_sketch_paper(sketch, value):
    """Whether any value is a sketch paper."""
    if not isinstance(value, tuple):
        return False
    if len(value) == 2 and value[0] == "stands":
        return is_keeper(sketch, value[1])
    if len(value) != 3 or value[0] != "fails":
        return False
    return log_breaks(sketch, sketch.sayings(), value[1], value[2])


def is_keeper(sketch, value):
    """Whether any value is a world that keeps a sketch."""
    return isinstance(value, World) and sketch.kept_by(value)


def log_breaks(sketch, sayings, at, log):
    """Whether any two values are the index of an unlike saying and a log that makes its cases alike.

    The log is one of the bare filling of the sketch with these sayings in place of its own.
    """
    if not is_number(at, 0, len(sayings) - 1) or ties_of(sayings) > Frame.LIMIT:
        return False
    word, circle, one, other = sayings[at]
    return word == "unlike" and log_shows(bare_world(sketch.many, sayings), sketch.book, log, circle, one, other)


def outlook_paper(sketch, circle, one, other):
    """An outlook paper for a circle and two cases."""
    outlook = sketch.outlook(circle, one, other)
    log, filling = closed_by(sketch.bare(), sketch.book.grants())
    if outlook == "surely":
        return "surely", log
    further = sketch.sayings() + [("alike", circle, one, other)]
    log, wider = closed_by(bare_world(sketch.many, further), sketch.book.grants())
    if outlook == "never":
        return "never", broken_in(wider, further), log
    return "open", filling, wider


def is_outlook_paper(sketch, circle, one, other, value):
    """Whether any value is an outlook paper for a circle and two cases."""
    check_cases(sketch.many, (one, other))
    if not isinstance(value, tuple):
        return False
    if len(value) == 2 and value[0] == "surely":
        return log_shows(sketch.bare(), sketch.book, value[1], circle, one, other)
    if len(value) != 3:
        return False
    if value[0] == "never":
        further = sketch.sayings() + [("alike", circle, one, other)]
        return log_breaks(sketch, further, value[1], value[2])
    if value[0] != "open" or not is_keeper(sketch, value[1]) or not is_keeper(sketch, value[2]):
        return False
    return not value[1].alike(circle, one, other) and value[2].alike(circle, one, other)
