"""Events: what circles know of them."""

from pooledeyes.chains import link_partings
from pooledeyes.errors import InvalidNumber
from pooledeyes.partings import spread
from pooledeyes.words import is_number
from pooledeyes.worlds import check_cases

MOST_ROUNDS = 100


def is_known(world, circle, event, case):
    """Whether an event is known to a circle at a case."""
    check_cases(world.many, event)
    check_cases(world.many, (case,))
    return case in known(world, circle, event)


def known(world, circle, event):
    """The ascending tuple of the cases at which an event is known to a circle."""
    check_cases(world.many, event)
    return others(world, spread(world.parting(circle), others(world, event)))


def around(world, circle, event):
    """The least settled event in which an event is."""
    check_cases(world.many, event)
    return spread(world.parting(circle), event)


def is_settled(world, circle, event):
    """Whether an event is known to a circle wherever it holds."""
    return list(around(world, circle, event)) == sorted(set(event))


def known_by_each(world, circle, event, rounds):
    """The ascending tuple of the cases at which an event is known by each in so many rounds."""
    check_cases(world.many, event)
    if not is_number(rounds, 0, MOST_ROUNDS):
        raise InvalidNumber(rounds)
    partings = link_partings(world, circle)
    doubted = others(world, event)
    for _ in range(rounds):
        wider = doubted_by_some(partings, doubted)
        if len(wider) == len(doubted):
            # Nothing changes any more, however many rounds are left.
            break
        doubted = wider
    return others(world, doubted)


def doubted_by_some(partings, doubted):
    """The cases that one of some partings takes for alike to a case at which an event does not hold."""
    return sorted(set([case for parting in partings for case in spread(parting, doubted)]))


def others(world, event):
    """The ascending tuple of the cases at which an event does not hold."""
    held = set(event)
    return tuple([case for case in range(1, world.many + 1) if case not in held])
