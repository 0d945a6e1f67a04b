"""A second, plain way to close worlds under grants, and to find sights."""

from tests.plainworlds import closed, parting_from, plain_relation


def eye_relation(many, ties, name):
    """The relation of an eye in the world of some ties."""
    return closed(many, [(u, v) for eye, u, v in ties if eye == name])


def plain_closing(many, ties, grants):
    """The pair of the closing log and the ties behind it, by the words of the document."""
    log, ties = [], list(ties)
    while True:
        before = len(log)
        for at, (circle, name) in enumerate(grants):
            told = plain_relation(many, ties, circle)
            for u in range(1, many + 1):
                if any((v, u) in told for v in range(1, u)):
                    continue
                for v in range(u + 1, many + 1):
                    if (u, v) in told and (u, v) not in eye_relation(many, ties, name):
                        log.append((at, u, v))
                        ties.append((name, u, v))
        if len(log) == before:
            return log, ties


def plain_sizes(many, relations, most):
    """A dict from the partings of circles of some relations to their least size, up to a size."""
    made = {1: {frozenset(relation) for relation in relations}}
    sizes = {relation: 1 for relation in made[1]}
    for size in range(2, most + 1):
        found = set()
        for less in range(1, size // 2 + 1):
            for one in made[less]:
                for other in made[size - less]:
                    found |= {frozenset(one & other), frozenset(closed(many, one | other))}
        # A parting that a lesser circle has brings nothing new at this size.
        made[size] = {relation for relation in found if relation not in sizes}
        sizes.update({relation: size for relation in made[size]})
    return {parting_from(many, relation): size for relation, size in sizes.items()}
