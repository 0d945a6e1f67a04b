"""Closing worlds under books: making them keep the grants, and no more than that."""

from pooledeyes.errors import InvalidLog
from pooledeyes.partings import lots_of
from pooledeyes.words import is_number
from pooledeyes.worlds import tied_world


def closing_log(world, book):
    """The closing log of a world under a book."""
    log, _ = closed_by(world, book.grants())
    return log


def closed_world(world, book):
    """The closing of a world under a book."""
    _, closed = closed_by(world, book.grants())
    return closed


def closed_by(world, grants):
    """The pair of the closing log of a world under any number of grants and the world behind it."""
    log = []
    done = -1
    while done < len(log):
        done = len(log)
        for at, (circle, name) in enumerate(grants):
            pairs = pairs_shown(world.parting(circle), world.parting_named(name))
            if pairs:
                log.extend([(at, one, other) for one, other in pairs])
                world = tied_world(world, [(name, one, other) for one, other in pairs])
    return log, world


def pairs_shown(parting, shown):
    """The list of the pairs that are made alike in their order, so that what a parting takes for alike is shown."""
    lead = [0] + list(shown)
    pairs = []
    for lot in lots_of(parting):
        for case in lot[1:]:
            least = least_of(lead, lot[0])
            other = least_of(lead, case)
            if least != other:
                pairs.append((lot[0], case))
                lead[max(least, other)] = min(least, other)
    return pairs


def least_of(lead, case):
    """The least case that is alike to a case, where lead leads from each case to a lesser one that is."""
    while lead[case] != case:
        lead[case] = lead[lead[case]]
        case = lead[case]
    return case


def walked(world, book, log):
    """The world behind a log."""
    if not isinstance(log, (list, tuple)):
        raise InvalidLog(-1)
    grants = book.grants()
    ties = []
    partings = [None for _ in grants]
    for at, entry in enumerate(log):
        if not is_entry(entry, len(grants), world.many):
            raise InvalidLog(at)
        grant, one, other = entry
        circle, name = grants[grant]
        # What was alike stays alike. So a parting is found anew only where an older one does not do.
        if not is_alike(partings[grant], one, other):
            world = tied_world(world, ties)
            ties = []
            partings[grant] = world.parting(circle)
            if not is_alike(partings[grant], one, other):
                raise InvalidLog(at)
        ties.append((name, one, other))
    return tied_world(world, ties)


def is_alike(parting, one, other):
    """Whether two cases are alike in a parting; in None, which stands for a parting not found so far, none are."""
    return parting is not None and parting[one - 1] == parting[other - 1]


def is_entry(value, grants, cases):
    """Whether any value has the form of an entry, with so many grants and cases."""
    if not isinstance(value, tuple) or len(value) != 3:
        return False
    grant, one, other = value
    if not is_number(grant, 0, grants - 1) or not is_number(one, 1, cases) or not is_number(other, 1, cases):
        return False
    return one != other


def is_log(world, book, value):
    """Whether any value is a log of a world under a book."""
    try:
        walked(world, book, value)
    except InvalidLog:
        return False
    return True


def log_shows(world, book, value, circle, one, other):
    """Whether any value is a log of a world under a book, behind which two cases are alike to a circle."""
    try:
        behind = walked(world, book, value)
    except InvalidLog:
        return False
    return behind.alike(circle, one, other)
