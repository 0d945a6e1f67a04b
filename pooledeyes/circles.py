"""Circles: eyes, pools and commons."""

from pooledeyes.errors import InvalidCircle, InvalidName, TooMany
from pooledeyes.words import is_name

MOST_DEPTH = 20


def without_repeats(circles):
    """The list of circles without those whose text an earlier one has."""
    kept = {}
    for circle in circles:
        text = str(circle)
        if text not in kept:
            kept[text] = circle
    return list(kept.values())


def flattened(kind, circles):
    """The list of circles, with the parts of those of a kind in their place."""
    flat = []
    for circle in circles:
        if circle.kind == kind:
            flat.extend(circle.parts())
        else:
            flat.append(circle)
    return flat


def size_of(parts):
    """The number of written eyes of a circle with these parts."""
    return sum([part.size for part in parts])


def depth_over(parts):
    """The depth of a circle with these parts."""
    return 1 + max([part.depth for part in parts])


def inner_text(part):
    """The text of a part, as it stands within the text of a circle."""
    if part.kind == "eye":
        return part.name
    return f"({part!s})"


def text_of(kind, parts):
    """The text of a circle of a kind, a pool or a common, with these parts."""
    texts = [inner_text(part) for part in parts]
    if kind == "pool":
        return " & ".join(texts)
    return " | ".join(texts)


class Circle:
    """An eye, a pool or a common. Use eye, pool and common to make one."""

    LIMIT = 60

    def __init__(self, kind, name, parts):
        self.kind = kind
        self.name = name
        self._parts = list(parts)
        if kind == "eye":
            self.size = 1
            self.depth = 0
            self._text = name
        else:
            self.size = size_of(parts)
            self.depth = depth_over(parts)
            self._text = text_of(kind, parts)

    def parts(self):
        """The list of the parts, empty for an eye."""
        return list(self._parts)

    def eyes(self):
        """The ascending list of the names of the eyes in the circle."""
        if self.kind == "eye":
            return [self.name]
        return sorted(set([name for part in self._parts for name in part.eyes()]))

    def __str__(self):
        return str(self._text)

    def __repr__(self):
        return f"Circle({self._text})"

    def __eq__(self, other):
        return isinstance(other, Circle) and self._text == other._text

    def __and__(self, other):
        if not isinstance(other, Circle):
            return NotImplemented
        return built("pool", [self, other])

    def __or__(self, other):
        if not isinstance(other, Circle):
            return NotImplemented
        return built("common", [self, other])


def eye(name):
    """The eye with a name."""
    if not is_name(name):
        raise InvalidName(name)
    return Circle("eye", name, [])


def pool(*circles):
    """The circle of what circles know together."""
    check_circles(circles)
    return built("pool", circles)


def common(*circles):
    """The circle of what circles know in common."""
    check_circles(circles)
    return built("common", circles)


def check_circles(values):
    """Refuse an empty row, and a row with a value that is no circle."""
    if len(values) == 0:
        raise InvalidCircle(0)
    for at, value in enumerate(values):
        if not isinstance(value, Circle):
            raise InvalidCircle(at)


def built(kind, circles):
    """The pool or the common, as kind says, of one circle or more."""
    parts = without_repeats(flattened(kind, circles))
    if len(parts) == 1:
        return parts[0]
    if size_of(parts) > Circle.LIMIT:
        raise TooMany("eyes", Circle.LIMIT)
    if depth_over(parts) > MOST_DEPTH:
        raise TooMany("depth", MOST_DEPTH)
    return Circle(kind, "", parts)
