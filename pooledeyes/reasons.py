"""Least reasons for what follows from sketches, and sayings that are idle in them."""

from pooledeyes.closings import closed_world
from pooledeyes.errors import CannotStand, TooMany
from pooledeyes.lots import least_rows
from pooledeyes.sketches import bare_world, broken_in, check_sayings
from pooledeyes.worlds import check_cases

MOST_LOOKED_THROUGH = 8


def least_reasons(sketch, circle, one, other):
    """The list of all least reasons for two cases to be alike to a circle, by size."""
    check_cases(sketch.many, (one, other))
    alike = [at for at, saying in enumerate(sketch.sayings()) if saying[0] == "alike"]
    if len(alike) > MOST_LOOKED_THROUGH:
        raise TooMany("sayings", MOST_LOOKED_THROUGH)
    lots = least_rows(len(alike), lambda lot: with_some(sketch, picked(alike, lot)).alike(circle, one, other))
    return [tuple(picked(alike, row)) for row in lots]


def idle_sayings(sketch):
    """The ascending list of the indexes of the idle sayings."""
    broken = sketch.first_broken()
    if broken is not None:
        raise CannotStand(broken)
    sayings = sketch.sayings()
    for word, circle, one, other in sayings:
        if word == "unlike":
            check_sayings(sayings + [("alike", circle, one, other)])
    return [at for at in range(len(sayings)) if is_idle_saying(sketch, sayings, at)]


def is_idle_saying(sketch, sayings, at):
    """Whether a sketch that stands says already, without its saying with an index, what this one tells."""
    word, circle, one, other = sayings[at]
    rest = sayings[:at] + sayings[at + 1:]
    if word == "alike":
        return filled(sketch, rest).alike(circle, one, other)
    further = rest + [("alike", circle, one, other)]
    return broken_in(filled(sketch, further), further) is not None


def with_some(sketch, chosen):
    """The filling of the sketch with the same cases and book, and with just the sayings with some indexes."""
    return filled(sketch, picked(sketch.sayings(), chosen))


def filled(sketch, sayings):
    """The filling of the sketch with the same cases and book, and with any number of sayings."""
    return closed_world(bare_world(sketch.many, sayings), sketch.book)


def picked(things, lot):
    """The list of the things with the indexes of a lot."""
    return [things[at] for at in lot]
