"""Stretches: worlds that grow new cases, so that circles can be laid between alike ones."""

from pooledeyes.errors import NotAlike, TooMany, UnknownEye
from pooledeyes.frames import count_cases
from pooledeyes.partings import apart, joined, linked, within
from pooledeyes.worlds import check_cases, check_names, world_with

MOST_SPOTS = 120


def label_joins(labels):
    """A dict from (i, j), with i up to j, to the join of the labels of the steps from place i to place j."""
    joins = {}
    for start in range(len(labels) + 1):
        joins[start, start] = apart(len(labels[0]))
        for end in range(start + 1, len(labels) + 1):
            joins[start, end] = joined([joins[start, end - 1], labels[end - 1]])
    return joins


class Stretch:
    """A world with further spots, and a distance between each two spots, which is a parting of its cases."""

    def __init__(self, world, eyes=()):
        check_names(eyes)
        self.begun = world
        self._eyes = sorted(set(world.eyes() + list(eyes)))
        self._last = world.many
        # Of pairs (lesser spot, greater spot) of which the greater one is new; the others need no room.
        self._distances = {}

    @property
    def spots(self):
        """The number of spots."""
        return self._last

    def eyes(self):
        """The ascending list of the eyes."""
        return list(self._eyes)

    def distance(self, one, other):
        """The distance between two spots."""
        check_cases(self._last, (one, other))
        if one == other:
            return apart(self.begun.many)
        if max(one, other) > self.begun.many:
            return self._distances[min(one, other), max(one, other)]
        return linked(self.begun.many, [(one, other)])

    def lay(self, circle, one, other):
        """Lay a circle between two spots, and tell the spots for the cases of its frame."""
        for name in circle.eyes():
            if name not in self._eyes:
                raise UnknownEye(name)
        # Values that are no spots are refused by distance.
        if not within(self.distance(one, other), self.begun.parting(circle)):
            raise NotAlike(one, other)
        ahead = self._last
        if ahead + count_cases(circle) - 2 > MOST_SPOTS:
            raise TooMany("cases", MOST_SPOTS)
        self._put(circle, one, other)
        return (one, other) + tuple(range(ahead + 1, self._last + 1))

    def _put(self, circle, one, other):
        """Lay a circle that can be laid between two spots."""
        if circle.kind == "pool":
            for part in circle.parts():
                self._put(part, one, other)
        if circle.kind == "common":
            path = self._path(circle, one, other)
            for part, near, far in zip(circle.parts() * 2, path, path[1:]):
                self._put(part, near, far)

    def _path(self, circle, one, other):
        """Lay the path of a common between two spots: the list of its spots, of which all within are new."""
        many = len(circle.parts())
        joins = label_joins([self.begun.parting(part) for part in circle.parts()] * 2)
        path = [one] + list(range(self._last + 1, self._last + 2 * many)) + [other]
        across = self.distance(one, other)
        for i in range(1, 2 * many):
            for spot in range(1, self._last + 1):
                if i <= many:
                    distance = joined([self.distance(spot, one), joins[0, i]])
                else:
                    distance = joined([self.distance(spot, other), joins[i, 2 * many]])
                self._distances[spot, path[i]] = distance
            for j in range(i + 1, 2 * many):
                if j - i < many:
                    distance = joins[i, j]
                else:
                    distance = joined([joins[0, i], across, joins[j, 2 * many]])
                self._distances[path[i], path[j]] = distance
        self._last += 2 * many - 1
        return path

    def world(self):
        """The stretched world."""
        return world_with(self._last, {name: self._stretched(name) for name in self._eyes})

    def _stretched(self, name):
        """The parting of the spots of the eye with a name."""
        parting = self.begun.parting_named(name)
        further = range(self.begun.many + 1, self._last + 1)
        return parting + tuple([self._least_alike(parting, spot) for spot in further])

    def _least_alike(self, parting, spot):
        """The least spot of which the distance to a spot is within a parting."""
        for lesser in range(1, spot):
            if within(self.distance(lesser, spot), parting):
                return lesser
        return spot

    def twin(self):
        """An independent stretch in the same state."""
        other = Stretch(self.begun, self._eyes)
        other._last = self._last
        other._distances = {pair: self._distances[pair] for pair in self._distances}
        return other

    def __len__(self):
        return len(range(self._last))

    def __repr__(self):
        return f"Stretch({self._last} spots)"
