"""Sights: the partings of all circles that can be written with some eyes, in one world.

A recipe of a sight tells a circle of the least size with this parting. It is a
tuple (size, kind, one, other): kind is eye, with the name as one, or pool or
common, with two other sights as one and other.
"""

from pooledeyes.circles import Circle, built, eye
from pooledeyes.errors import InvalidEyes, InvalidParting, TooMany
from pooledeyes.partings import joined, met, within
from pooledeyes.words import is_eye_row
from pooledeyes.worlds import is_parting_to

MOST_EYES = 6
MOST_SIGHTS = 200


def recipes_for(world, names):
    """A dict from the sights of a world, for eyes with these names, to their recipes."""
    waiting = {}
    for name in names:
        waiting.setdefault(world.parting_named(name), (1, "eye", name, None))
    found = {}
    while waiting:
        # The least size comes first: nothing that comes later can make a lesser one for the same parting.
        _, sight = min([(waiting[parting][0], parting) for parting in waiting])
        found[sight] = waiting.pop(sight)
        for other in list(found):
            meet = met([sight, other])
            # Where one of the two is within the other one, the meet and the join are these two again.
            if meet not in (sight, other):
                size = found[sight][0] + found[other][0]
                note_recipe(meet, (size, "pool", sight, other), found, waiting)
                note_recipe(joined([sight, other]), (size, "common", sight, other), found, waiting)
        if len(found) + len(waiting) > MOST_SIGHTS:
            raise TooMany("circles", MOST_SIGHTS)
    return found


def note_recipe(sight, recipe, found, waiting):
    """Let a recipe wait if none of at most this size is known for its sight."""
    if sight not in found and (sight not in waiting or recipe[0] < waiting[sight][0]):
        waiting[sight] = recipe


def cooked(sight, recipes):
    """The circle that the recipe of a sight tells."""
    _, kind, one, other = recipes[sight]
    if kind == "eye":
        return eye(one)
    return built(kind, [cooked(one, recipes), cooked(other, recipes)])


class Sights:
    """The sights of a world for a row of eyes. They never change."""

    def __init__(self, world, eyes):
        if not is_eye_row(eyes, 1, MOST_EYES):
            raise InvalidEyes()
        self.begun = world
        self._eyes = list(eyes)
        self._recipes = recipes_for(world, eyes)

    def eyes(self):
        """The list of the names of the eyes, in the order in which they were passed."""
        return list(self._eyes)

    def partings(self):
        """The ascending list of the sights."""
        return sorted(self._recipes)

    def circle_for(self, parting):
        """A circle of the least size with a parting, None if it is no sight."""
        self._check_parting(parting)
        if parting not in self._recipes:
            return None
        if self._recipes[parting][0] > Circle.LIMIT:
            raise TooMany("eyes", Circle.LIMIT)
        return cooked(parting, self._recipes)

    def least_size(self, parting):
        """The least size of a circle with a parting, None if it is no sight."""
        self._check_parting(parting)
        if parting not in self._recipes:
            return None
        return self._recipes[parting][0]

    def inner(self, parting):
        """The sight within a parting that has all others within it within itself, None if there is none."""
        self._check_parting(parting)
        sights = [sight for sight in self._recipes if within(sight, parting)]
        return joined(sights) if sights else None

    def outer(self, parting):
        """The sight with a parting within it that is within all others that have it so, None if there is none."""
        self._check_parting(parting)
        sights = [sight for sight in self._recipes if within(parting, sight)]
        return met(sights) if sights else None

    def _check_parting(self, value):
        """Refuse any value that is no parting of the cases of the world."""
        if not is_parting_to(value, self.begun.many):
            raise InvalidParting(value)

    def __contains__(self, x):
        return is_parting_to(x, self.begun.many) and x in self._recipes

    def __len__(self):
        return len(self._recipes)

    def __repr__(self):
        return f"Sights({len(self._recipes)} partings)"
