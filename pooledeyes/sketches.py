"""Sketches: some cases with sayings about them, under a book, and what follows from these."""

from pooledeyes.books import Book
from pooledeyes.circles import Circle
from pooledeyes.closings import closed_world
from pooledeyes.errors import CannotStand, InvalidNumber, InvalidSaying, TooMany, UnknownSaying, UnlikeSketches
from pooledeyes.frames import Frame, ROUNDS, laid, many_fresh, many_ties
from pooledeyes.words import is_number
from pooledeyes.worlds import World, check_cases

MOST_LISTED = 8
MOST_SAYINGS = 12
KINDS = ("alike", "unlike")


def is_saying(value, many):
    """Whether any value is a saying on so many listed cases."""
    if not isinstance(value, tuple) or len(value) != 4:
        return False
    word, circle, one, other = value
    if word not in KINDS or not isinstance(circle, Circle):
        return False
    return is_number(one, 1, many) and is_number(other, 1, many)


def ties_of(sayings):
    """The number of ties of the frames of all alike sayings together."""
    return sum([many_ties(circle, ROUNDS, 0) for word, circle, _, _ in sayings if word == "alike"])


def check_sayings(sayings):
    """Refuse sayings of which the alike ones have frames with too many ties together."""
    if ties_of(sayings) > Frame.LIMIT:
        raise TooMany("ties", Frame.LIMIT)


def bare_world(many, sayings):
    """The bare filling of so many cases and any number of sayings."""
    ties = []
    fresh = many + 1
    for word, circle, one, other in sayings:
        if word == "alike":
            ties.extend(laid(circle, one, other, fresh, ROUNDS, 0))
            fresh += many_fresh(circle, ROUNDS, 0)
    return World(fresh - 1, ties)


def broken_in(world, sayings):
    """The index of the first unlike saying whose cases are alike in a world, None if there is none."""
    for at, (word, circle, one, other) in enumerate(sayings):
        if word == "unlike" and world.alike(circle, one, other):
            return at
    return None


class Sketch:
    """A number of listed cases, a row of sayings, and a book. It never changes."""

    def __init__(self, many, *sayings, under=None):
        if not is_number(many, 1, MOST_LISTED):
            raise InvalidNumber(many)
        for at, value in enumerate(sayings):
            if not is_saying(value, many):
                raise InvalidSaying(at)
        if len(sayings) > MOST_SAYINGS:
            raise TooMany("sayings", MOST_SAYINGS)
        check_sayings(sayings)
        self.many = many
        self.book = Book() if under is None else under
        self._sayings = list(sayings)

    def sayings(self):
        """The list of the sayings."""
        return list(self._sayings)

    def bare(self):
        """The bare filling."""
        return bare_world(self.many, self._sayings)

    def filling(self):
        """The filling."""
        return closed_world(self.bare(), self.book)

    def first_broken(self):
        """The index of the first unlike saying whose cases are alike in the filling, None if the sketch stands."""
        return broken_in(self.filling(), self._sayings)

    def stands(self):
        """Whether some world keeps the sketch."""
        return self.first_broken() is None

    def kept_by(self, world):
        """Whether a world keeps the sketch."""
        if world.many < self.many or not self.book.kept_by(world):
            return False
        return all([world.alike(circle, one, other) == (word == "alike") for word, circle, one, other in self._sayings])

    def outlook(self, circle, one, other):
        """Whether two listed cases are alike to a circle in all worlds that keep the sketch, in none, or in some."""
        check_cases(self.many, (one, other))
        filling = self.filling()
        broken = broken_in(filling, self._sayings)
        if broken is not None:
            raise CannotStand(broken)
        if filling.alike(circle, one, other):
            return "surely"
        further = self._sayings + [("alike", circle, one, other)]
        check_sayings(further)
        wider = closed_world(bare_world(self.many, further), self.book)
        return "open" if broken_in(wider, further) is None else "never"

    def with_saying(self, word, circle, one, other):
        """The sketch with one more saying behind the others."""
        return Sketch(self.many, *self._sayings, (word, circle, one, other), under=self.book)

    def without(self, at):
        """The sketch without the saying with an index."""
        if not is_number(at, 0, len(self._sayings) - 1):
            raise UnknownSaying(at)
        rest = self._sayings[:at] + self._sayings[at + 1:]
        return Sketch(self.many, *rest, under=self.book)

    def merged(self, other):
        """The sketch with its sayings and then those of another one that it does not have itself."""
        if self.many != other.many or self.book != other.book:
            raise UnlikeSketches()
        further = [saying for saying in other._sayings if saying not in self._sayings]
        sayings = self._sayings + further
        return Sketch(self.many, *sayings, under=self.book)

    def with_book(self, book):
        """The sketch under another book."""
        return Sketch(self.many, *self._sayings, under=book)

    def __eq__(self, other):
        if not isinstance(other, Sketch):
            return False
        return self.many == other.many and self.book == other.book and self._sayings == other._sayings

    def __bool__(self):
        return True

    def __len__(self):
        return len(self._sayings)

    def __repr__(self):
        return f"Sketch({self.many} cases, {len(self._sayings)} sayings)"
