"""A second, plain way to judge logs and papers, over pairs of cases."""

from pooledeyes.worlds import World
from tests.plainworlds import closed, plain_relation


def is_number(value, least, most):
    """Whether a value is an integer in these bounds, and no boolean."""
    return type(value) is int and least <= value <= most


def plain_walked(many, ties, grants, log):
    """The ties behind a log, None if any value is no log."""
    if not isinstance(log, (list, tuple)):
        return None
    ties = list(ties)
    for entry in log:
        if not isinstance(entry, tuple) or len(entry) != 3:
            return None
        at, u, v = entry
        if not (is_number(at, 0, len(grants) - 1) and is_number(u, 1, many) and is_number(v, 1, many)) or u == v:
            return None
        circle, name = grants[at]
        if (u, v) not in plain_relation(many, ties, circle):
            return None
        ties.append((name, u, v))
    return ties


def plain_log_shows(many, ties, grants, log, circle, u, v):
    """Whether any value is a log behind which two cases are alike to a circle."""
    behind = plain_walked(many, ties, grants, log)
    return behind is not None and (u, v) in plain_relation(many, behind, circle)


def ties_of(world):
    """Ties that make a world."""
    return [(name, case, item) for name, parting in world.partings().items()
            for case, item in enumerate(parting, start=1)]


def plain_keeps(world, grants):
    """Whether a world keeps some grants."""
    ties = ties_of(world)
    return all(plain_relation(world.many, ties, circle) <= closed(world.many, [(u, v) for eye, u, v in ties
                                                                              if eye == name])
               for circle, name in grants)


def plain_alike(world, circle, u, v):
    """Whether two cases of a world are alike to a circle."""
    return (u, v) in plain_relation(world.many, ties_of(world), circle)


def log_changes(source, log):
    """Values that are made from a log: with an entry left out, doubled, moved, put in or changed."""
    found = [log, tuple(log), log[::-1], log + log, log[1:], log[:-1], None, "told", World(1), [log]]
    for at in range(len(log)):
        entry = log[at]
        rest = log[:at] + log[at + 1:]
        found += [rest, log[:at] + [entry] + log[at:], [entry] + rest, rest + [entry]]
        other = source.randrange(len(log) + 1)
        found.append(rest[:other] + [entry] + rest[other:])
        for changed in [(entry[0] + 1,) + entry[1:], (entry[0] - 1,) + entry[1:], (entry[0], entry[2], entry[1]),
                        (entry[0], entry[1], entry[1]), (entry[0], entry[1], source.randint(0, 6)), list(entry),
                        (entry[0], source.randint(0, 6), entry[2]), entry[:2], entry + (1,), None, (True,) + entry[1:]]:
            found.append(log[:at] + [changed] + log[at + 1:])
            found.append(log[:at] + [changed] + log[at:])
    return found


def paper_changes(paper):
    """Tuples and other values that are made from a paper, with other words and other numbers of items."""
    words = ["told", "untold", "safe", "broken", "stands", "fails", "surely", "never", "open", "", None, 0, True,
             World(1), ("told",), []]
    found = [list(paper), paper[1:], paper[:-1], paper + (1,), paper + (None,), paper + paper[-1:], (), (paper,), None,
             paper[0], paper[::-1]]
    return found + [(word,) + paper[1:] for word in words if word != paper[0]]
