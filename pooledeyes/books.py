"""Books of grants: which circles are shown what which eyes see."""

from pooledeyes.circles import Circle, eye
from pooledeyes.circletexts import grown, read_tree
from pooledeyes.errors import InvalidGrant, InvalidLot, InvalidText, TooMany, UnknownGrant
from pooledeyes.puts import put_in
from pooledeyes.words import is_name, is_number
from pooledeyes.worlds import check_names


def is_grant(value):
    """Whether any value is a grant."""
    return isinstance(value, tuple) and len(value) == 2 and isinstance(value[0], Circle) and is_name(value[1])


def check_lot(value, many):
    """Refuse any value that is no lot of so many grants."""
    if not isinstance(value, tuple):
        raise InvalidLot(-1)
    least = 0
    for at, item in enumerate(value):
        if not is_number(item, least, many - 1):
            raise InvalidLot(at)
        least = item + 1


def read_line(line, at):
    """The pair of the tree of the circle and the name that the line with an index tells."""
    text, _, name = line.partition(" > ")
    if not is_name(name):
        raise InvalidText(at)
    try:
        return read_tree(text), name
    except InvalidText:
        raise InvalidText(at) from None


class Book:
    """A row of grants. It never changes."""

    LIMIT = 12

    def __init__(self, *grants):
        for at, value in enumerate(grants):
            if not is_grant(value):
                raise InvalidGrant(at)
        if len(grants) > Book.LIMIT:
            raise TooMany("grants", Book.LIMIT)
        self._grants = list(grants)

    @staticmethod
    def read(text):
        """The book with a text."""
        if not isinstance(text, str):
            raise InvalidText(-1)
        *lines, rest = text.split("\n")
        # All lines are looked at before any circle is built, as a wrong line counts ahead of too great a circle.
        pairs = [read_line(line, at) for at, line in enumerate(lines)]
        if rest != "":
            raise InvalidText(len(lines))
        grants = [(grown(tree), name) for tree, name in pairs]
        return Book(*grants)

    def grants(self):
        """The list of the grants."""
        return list(self._grants)

    def eyes(self):
        """The ascending list of the names of all eyes in the book, shown ones too."""
        shown = [name for _, name in self._grants]
        return sorted(set(shown + [name for circle, _ in self._grants for name in circle.eyes()]))

    def with_grant(self, circle, name):
        """The book with one more grant behind the others."""
        return Book(*self._grants, (circle, name))

    def without(self, at):
        """The book without the grant with an index."""
        if not is_number(at, 0, len(self._grants) - 1):
            raise UnknownGrant(at)
        rest = self._grants[:at] + self._grants[at + 1:]
        return Book(*rest)

    def only(self, lot):
        """The book of the grants of a lot."""
        check_lot(lot, len(self._grants))
        chosen = [self._grants[at] for at in lot]
        return Book(*chosen)

    def first_unkept(self, world):
        """The index of the first grant that a world does not keep, None if it keeps all."""
        for at, (circle, name) in enumerate(self._grants):
            if not world.tells(circle, eye(name)):
                return at
        return None

    def kept_by(self, world):
        """Whether a world keeps the book."""
        return self.first_unkept(world) is None

    def exchanged(self, first, second):
        """The book with two eyes exchanged everywhere."""
        check_names((first, second))
        names = {first: second, second: first}
        images = {first: eye(second), second: eye(first)}
        grants = [(put_in(circle, images), names.get(name, name)) for circle, name in self._grants]
        return Book(*grants)

    def text(self):
        """The text of the book."""
        return "".join([f"{circle!s} > {name}\n" for circle, name in self._grants])

    def __add__(self, other):
        if not isinstance(other, Book):
            return NotImplemented
        grants = self._grants + [grant for grant in other._grants if grant not in self._grants]
        return Book(*grants)

    def __iter__(self):
        return iter(self._grants)

    def __eq__(self, other):
        return isinstance(other, Book) and self._grants == other._grants

    def __bool__(self):
        return True

    def __len__(self):
        return len(self._grants)

    def __str__(self):
        return str(self.text())

    def __repr__(self):
        return f"Book({len(self._grants)} grants)"
