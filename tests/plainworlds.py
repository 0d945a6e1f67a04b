"""A second, plain way to find what is alike in worlds, by the words of the document, and random worlds.

A relation is a set of pairs of cases that is reflexive, symmetric and transitive.
"""

import itertools
import random

from pooledeyes.circletexts import read_circle
from pooledeyes.worlds import World
from tests.plain import plain_text, random_plain


def closed(many, pairs):
    """The least relation of so many cases with some pairs."""
    found = {(case, case) for case in range(1, many + 1)} | set(pairs) | {(v, u) for u, v in pairs}
    while True:
        wider = found | {(u, w) for u, v in found for x, w in found if v == x}
        if wider == found:
            return found
        found = wider


def relation_of(parting):
    """The relation of a parting."""
    cases = range(1, len(parting) + 1)
    return {(u, v) for u in cases for v in cases if parting[u - 1] == parting[v - 1]}


def parting_from(many, relation):
    """The parting of a relation."""
    return tuple(min(u for u in range(1, many + 1) if (u, case) in relation) for case in range(1, many + 1))


def plain_relation(many, ties, circle):
    """The relation of a circle in the world of some ties."""
    if circle.kind == "eye":
        return closed(many, [(u, v) for name, u, v in ties if name == circle.name])
    relations = [plain_relation(many, ties, part) for part in circle.parts()]
    if circle.kind == "pool":
        return set.intersection(*relations)
    return closed(many, set.union(*relations))


def link_relations(many, ties, circle):
    """The list of the relations of the links of a circle."""
    links = circle.parts() if circle.kind == "common" else [circle]
    return [plain_relation(many, ties, link) for link in links]


def plain_distances(many, links):
    """A dict from pairs of cases with a chain to the fewest steps, for the relations of some links."""
    steps = set.union(*links)
    found = {(case, case): 0 for case in range(1, many + 1)}
    for count in range(1, many):
        for u, v in [pair for pair, far in found.items() if far == count - 1]:
            for x, w in steps:
                if v == x and (u, w) not in found:
                    found[u, w] = count
    return found


def plain_least_chain(many, links, one, other):
    """The least chain between two cases, None if there is none, found among all rows of cases."""
    steps = set.union(*links)
    for count in range(many):
        if count == 0 and one == other:
            return ()
        for inner in itertools.product(range(1, many + 1), repeat=max(count - 1, 0)):
            row = (one,) + inner + (other,)
            if count > 0 and all(pair in steps for pair in zip(row, row[1:])):
                return tuple((u, v, [(u, v) in link for link in links].index(True)) for u, v in zip(row, row[1:]))
    return None


def all_events(many):
    """All ascending tuples of cases out of so many."""
    cases = range(1, many + 1)
    return [row for count in range(many + 1) for row in itertools.combinations(cases, count)]


def plain_known(many, relation, event):
    """The ascending tuple of the cases at which an event is known by a relation."""
    cases = range(1, many + 1)
    return tuple(u for u in cases if all(v in event for v in cases if (u, v) in relation))


def random_ties(source, many, names, count):
    """So many ties; source makes the choices."""
    return [(source.choice(names), source.randint(1, many), source.randint(1, many)) for _ in range(count)]


def random_circle(source, size):
    """A circle of at most so many written eyes with the names a, b, c, d, long and sixsix."""
    return read_circle(plain_text(random_plain(source, source.randint(1, size))))


def random_worlds(seed, count, most):
    """A list of (world, ties) with so many worlds of up to so many cases."""
    source = random.Random(seed)
    found = []
    for _ in range(count):
        many = source.randint(1, most)
        ties = random_ties(source, many, ["a", "b", "c", "d", "long", "z"], source.randint(0, 2 * many))
        found.append((World(many, ties), ties))
    return found
