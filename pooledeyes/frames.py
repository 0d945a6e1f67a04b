"""Frames: one small world for all questions about what a circle always tells."""

from pooledeyes.errors import InvalidNumber, TooMany
from pooledeyes.words import is_number
from pooledeyes.worlds import World

ROUNDS = 2
MOST_ROUNDS = 4


def laid_ties(circle, first, second, fresh, *, rounds=ROUNDS, less=0):
    """The list of the ties of a circle that is laid between two cases; fresh is the first free number."""
    check_laying(rounds, less)
    check_frame(circle, rounds, less)
    return laid(circle, first, second, fresh, rounds, less)


def count_ties(circle, *, rounds=ROUNDS, less=0):
    """The number of ties of the frame of a circle, however many there are."""
    check_laying(rounds, less)
    return many_ties(circle, rounds, less)


def count_cases(circle, *, rounds=ROUNDS, less=0):
    """The number of cases of the frame of a circle, however many there are."""
    check_laying(rounds, less)
    return 2 + many_fresh(circle, rounds, less)


def check_laying(rounds, less):
    """Refuse values that are no number of rounds, and no number of steps that are left out."""
    if not is_number(rounds, 1, MOST_ROUNDS):
        raise InvalidNumber(rounds)
    if not is_number(less, 0, 1):
        raise InvalidNumber(less)


def check_frame(circle, rounds, less):
    """Refuse a circle whose frame has too many ties."""
    if many_ties(circle, rounds, less) > Frame.LIMIT:
        raise TooMany("ties", Frame.LIMIT)


def over_steps(circle, counts, rounds, less):
    """The sum over the parts that are laid, where counts has a number for each part of the circle."""
    if circle.kind == "pool":
        return sum(counts)
    return rounds * sum(counts) - less * counts[-1]


def many_ties(circle, rounds, less):
    """The number of ties of a circle that is laid."""
    if circle.kind == "eye":
        return 1
    counts = [many_ties(part, rounds, less) for part in circle.parts()]
    return over_steps(circle, counts, rounds, less)


def many_fresh(circle, rounds, less):
    """The number of new cases of a circle that is laid."""
    if circle.kind == "eye":
        return 0
    counts = [many_fresh(part, rounds, less) for part in circle.parts()]
    within_parts = over_steps(circle, counts, rounds, less)
    if circle.kind == "pool":
        return within_parts
    return rounds * len(counts) - less - 1 + within_parts


def laid(circle, first, second, fresh, rounds, less):
    """The list of the ties that laying a circle, in right rounds and with right steps left out, makes."""
    if circle.kind == "eye":
        return [(circle.name, first, second)]
    parts = circle.parts()
    if circle.kind == "pool":
        steps = [(part, first, second) for part in parts]
    else:
        row = (parts * rounds)[:rounds * len(parts) - less]
        path = [first] + list(range(fresh, fresh + len(row) - 1)) + [second]
        fresh += len(row) - 1
        steps = list(zip(row, path, path[1:]))
    ties = []
    for part, one, other in steps:
        ties.extend(laid(part, one, other, fresh, rounds, less))
        fresh += many_fresh(part, rounds, less)
    return ties


class Frame:
    """The world of the ties of a circle that is laid between the cases 1 and 2. It never changes."""

    LIMIT = 256

    def __init__(self, circle, *, rounds=ROUNDS, less=0):
        self._ties = laid_ties(circle, 1, 2, 3, rounds=rounds, less=less)
        self.circle = circle
        self.rounds = rounds
        self.less = less
        self.many = count_cases(circle, rounds=rounds, less=less)
        self._world = World(self.many, self._ties)

    def ties(self):
        """The list of the ties, in the order in which they are made."""
        return list(self._ties)

    def world(self):
        """The world of the ties."""
        return self._world

    def shows(self, circle):
        """Whether the ends of the frame are alike to a circle."""
        return self._world.alike(circle, 1, 2)

    def __eq__(self, other):
        if not isinstance(other, Frame):
            return False
        return self.circle == other.circle and self.rounds == other.rounds and self.less == other.less

    def __len__(self):
        return len(self._ties)

    def __repr__(self):
        return f"Frame({len(self._ties)} ties)"
