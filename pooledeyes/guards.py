"""Guards: books with bans, and whether the books break them."""

from pooledeyes.circles import Circle
from pooledeyes.closings import closed_by
from pooledeyes.errors import InvalidBan, NotSafe, TooMany, UnknownBan
from pooledeyes.frames import Frame, ROUNDS, check_frame
from pooledeyes.lots import check_looking, greatest_without, least_rows
from pooledeyes.words import is_number
from pooledeyes.worlds import World, check_names

MOST_BANS = 8


def is_ban(value):
    """Whether any value is a ban."""
    return isinstance(value, tuple) and len(value) == 2 and all([isinstance(item, Circle) for item in value])


def closed_under(frame, grants):
    """The closing of a frame's world under any number of grants."""
    _, closed = closed_by(frame, grants)
    return closed


def first_of(bans, frames, grants):
    """The index of the first ban that any number of grants break, None if none is; frames are those of the bans."""
    for at, (_, told) in enumerate(bans):
        if closed_under(frames[at], grants).alike(told, 1, 2):
            return at
    return None


class Guard:
    """A book and a row of bans. It never changes."""

    def __init__(self, book, *bans):
        for at, value in enumerate(bans):
            if not is_ban(value):
                raise InvalidBan(at)
        if len(bans) > MOST_BANS:
            raise TooMany("bans", MOST_BANS)
        for circle, _ in bans:
            check_frame(circle, ROUNDS, 0)
        self.book = book
        self._bans = list(bans)

    def bans(self):
        """The list of the bans."""
        return list(self._bans)

    def with_book(self, book):
        """The guard of another book with the same bans."""
        return Guard(book, *self._bans)

    def with_ban(self, one, other):
        """The guard with one more ban behind the others."""
        return Guard(self.book, *self._bans, (one, other))

    def without_ban(self, at):
        """The guard without the ban with an index."""
        if not is_number(at, 0, len(self._bans) - 1):
            raise UnknownBan(at)
        rest = self._bans[:at] + self._bans[at + 1:]
        return Guard(self.book, *rest)

    def _frames(self):
        """The list of the worlds of the frames of the bans' first circles."""
        return [Frame(circle).world() for circle, _ in self._bans]

    def first_broken(self):
        """The index of the first broken ban, None if the book is safe."""
        return first_of(self._bans, self._frames(), self.book.grants())

    def is_safe(self):
        """Whether the book breaks no ban."""
        return self.first_broken() is None

    def one_world(self):
        """One world that keeps the book and shows for each ban that it is not broken."""
        closed = []
        for at, frame in enumerate(self._frames()):
            closed.append(closed_under(frame, self.book.grants()))
            if closed[at].alike(self._bans[at][1], 1, 2):
                raise NotSafe(at)
        if closed == []:
            return World(1)
        world = closed[0]
        for other in closed[1:]:
            world = world + other
        return world

    def unsafe_lots(self):
        """The list of the least lots of grants that are not safe, by size."""
        check_looking(self.book)
        frames = self._frames()
        book = self.book
        return least_rows(len(book), lambda lot: first_of(self._bans, frames, book.only(lot).grants()) is not None)

    def safe_lots(self):
        """The list of the greatest lots of grants that are safe, by size."""
        return greatest_without(len(self.book), self.unsafe_lots())

    def may_add(self, circle, name):
        """Whether the book with one more grant is safe, however many grants it has then."""
        check_names((name,))
        grants = self.book.grants() + [(circle, name)]
        return first_of(self._bans, self._frames(), grants) is None

    def gains(self, circle, name, questions):
        """The ascending list of the indexes of the pairs (t, s) for which t must tell s just with one more grant."""
        check_names((name,))
        grants = self.book.grants()
        found = []
        for at, (t, s) in enumerate(questions):
            ahead = closed_under(Frame(t).world(), grants)
            behind = closed_under(ahead, grants + [(circle, name)])
            if behind.alike(s, 1, 2) and not ahead.alike(s, 1, 2):
                found.append(at)
        return found

    def __eq__(self, other):
        return isinstance(other, Guard) and self.book == other.book and self._bans == other._bans

    def __bool__(self):
        return True

    def __len__(self):
        return len(self._bans)

    def __repr__(self):
        return f"Guard({len(self.book)} grants, {len(self._bans)} bans)"
