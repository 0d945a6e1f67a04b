"""Worlds: cases, and what eyes and circles take for alike among them."""

from pooledeyes.errors import InvalidCase, InvalidName, InvalidNumber, InvalidParting, InvalidText, InvalidTie, TooMany
from pooledeyes.partings import apart, beside, is_parting, joined, linked, met, narrowed, within
from pooledeyes.words import is_name, is_number


def check_names(values):
    """Refuse the first of some values that is no name."""
    for value in values:
        if not is_name(value):
            raise InvalidName(value)


def check_cases(many, values):
    """Refuse the first of some values that is no case out of so many."""
    for value in values:
        if not is_number(value, 1, many):
            raise InvalidCase(value)


def check_kept(many, values):
    """Refuse an empty row, and the first value that is no case out of so many or stands ahead in the row."""
    if len(values) == 0:
        raise InvalidNumber(0)
    ahead = set()
    for value in values:
        if not is_number(value, 1, many) or value in ahead:
            raise InvalidCase(value)
        ahead.add(value)


def check_many(many):
    """Refuse a value that is no number of cases of a world."""
    if not is_number(many, 1, World.LIMIT):
        raise InvalidNumber(many)


def check_ties(many, values):
    """Refuse a value that is no list or tuple of ties of so many cases."""
    if not isinstance(values, (list, tuple)):
        raise InvalidTie(-1)
    for at, value in enumerate(values):
        if not is_tie(value, many):
            raise InvalidTie(at)


def is_tie(value, many):
    """Whether any value is a tie of so many cases."""
    if not isinstance(value, tuple) or len(value) != 3:
        return False
    return is_name(value[0]) and is_number(value[1], 1, many) and is_number(value[2], 1, many)


def is_parting_to(value, many):
    """Whether any value is a parting of so many cases."""
    return is_parting(value) and len(value) == many


def tied_partings(many, ties):
    """A dict from the names in some ties to the partings that the ties make."""
    pairs = {}
    for name, one, other in ties:
        pairs.setdefault(name, []).append((one, other))
    return {name: linked(many, pairs[name]) for name in pairs}


def counting(many, partings):
    """The dict of partings with its names ascending, without those that tell all cases apart."""
    idle = apart(many)
    return {name: partings[name] for name in sorted(partings) if partings[name] != idle}


def read_many(line):
    """The number of cases that the first line of a text tells, 0 if it is no such line."""
    return {f"cases {many}": many for many in range(1, World.LIMIT + 1)}.get(line, 0)


def read_parting(line, many):
    """The pair of the name and the items that a later line tells; an item that is no case is 0."""
    # Words are compared with numbers that are written out, as a case may be written in no other form.
    cases = {str(case): case for case in range(1, many + 1)}
    name, *words = line.split(" ")
    return name, tuple([cases.get(word, 0) for word in words])


class World:
    """So many cases, and for each eye a parting of them. It never changes."""

    LIMIT = 2400

    def __init__(self, many, ties=()):
        check_many(many)
        check_ties(many, ties)
        self.many = many
        # Only of the eyes that do not tell all cases apart, so that equal worlds keep equal dicts.
        self._partings = counting(many, tied_partings(many, ties))

    @staticmethod
    def parted(many, partings):
        """The world in which eyes have the partings that a dict has for their names."""
        check_many(many)
        check_names(list(partings))
        for value in partings.values():
            if not is_parting_to(value, many):
                raise InvalidParting(value)
        return world_with(many, partings)

    @staticmethod
    def read(text):
        """The world with a text."""
        if not isinstance(text, str):
            raise InvalidText(-1)
        first, *lines = text.split("\n")
        many = read_many(first)
        if many == 0 or lines == []:
            raise InvalidText(0)
        partings = {}
        ahead = ""
        for at, line in enumerate(lines[:-1], start=1):
            name, parting = read_parting(line, many)
            if not is_name(name) or name <= ahead or not is_parting_to(parting, many) or parting == apart(many):
                raise InvalidText(at)
            partings[name] = parting
            ahead = name
        if lines[-1] != "":
            raise InvalidText(len(lines))
        return world_with(many, partings)

    def eyes(self):
        """The ascending list of the names of the eyes that do not tell all cases apart."""
        return list(self._partings)

    def partings(self):
        """A dict from the names of these eyes, ascending, to their partings."""
        return dict(self._partings)

    def parting_named(self, name):
        """The parting of the eye with a name."""
        return self._partings.get(name, apart(self.many))

    def parting(self, circle):
        """The parting of a circle."""
        if circle.kind == "eye":
            return self.parting_named(circle.name)
        partings = [self.parting(part) for part in circle.parts()]
        if circle.kind == "pool":
            return met(partings)
        return joined(partings)

    def alike(self, circle, one, other):
        """Whether two cases are alike to a circle."""
        check_cases(self.many, (one, other))
        parting = self.parting(circle)
        return parting[one - 1] == parting[other - 1]

    def tells(self, t, s):
        """Whether whoever is t knows all that s knows."""
        return within(self.parting(t), self.parting(s))

    def tied(self, name, one, other):
        """The world with one tie more."""
        check_names((name,))
        check_cases(self.many, (one, other))
        return tied_world(self, [(name, one, other)])

    def kept_to(self, cases):
        """The world of some of the cases, numbered anew in their order."""
        check_kept(self.many, cases)
        kept = sorted(cases)
        return world_with(len(kept), {name: narrowed(self._partings[name], kept) for name in self._partings})

    def exchanged(self, first, second):
        """The world in which each of two eyes has the parting of the other one."""
        check_names((first, second))
        changed = {first: self.parting_named(second), second: self.parting_named(first)}
        return world_with(self.many, {**self._partings, **changed})

    def text(self):
        """The text of the world."""
        lines = [f"cases {self.many}\n"]
        for name, parting in self._partings.items():
            items = " ".join([str(item) for item in parting])
            lines.append(f"{name} {items}\n")
        return "".join(lines)

    def __add__(self, other):
        if not isinstance(other, World):
            return NotImplemented
        if self.many + other.many > World.LIMIT:
            raise TooMany("cases", World.LIMIT)
        names = self.eyes() + other.eyes()
        partings = {name: beside(self.parting_named(name), other.parting_named(name)) for name in names}
        return world_with(self.many + other.many, partings)

    def __eq__(self, other):
        return isinstance(other, World) and self.many == other.many and self._partings == other._partings

    def __len__(self):
        return len(range(self.many))

    def __str__(self):
        return str(self.text())

    def __repr__(self):
        return f"World({self.many} cases)"


def world_with(many, partings):
    """The world with the right partings, of so many cases, that a dict has for names in any order."""
    world = World(many)
    world._partings = counting(many, partings)
    return world


def tied_world(world, ties):
    """The world with some right ties more."""
    further = tied_partings(world.many, ties)
    changed = {name: joined([world.parting_named(name), further[name]]) for name in further}
    return world_with(world.many, {**world.partings(), **changed})
