"""Keys: of all circles that are always alike to a circle, the one with the fewest written eyes."""

from pooledeyes.circles import built
from pooledeyes.descents import told


def key_of(circle):
    """The key of a circle."""
    return key_with(circle, {})


def is_key(circle):
    """Whether a circle is its own key."""
    return key_of(circle) == circle


def essential_eyes(circle):
    """The ascending list of the names of the eyes of the key."""
    return key_of(circle).eyes()


def key_with(circle, known):
    """The key of a circle; known is a dict that keeps what always tells what."""
    if circle.kind == "eye":
        return circle
    keys = [key_with(part, known) for part in circle.parts()]
    return shortest(circle.kind, keys, known)


def shortest(kind, keys, known):
    """The key of the pool or the common, as kind says, of some keys."""
    circle = built(kind, keys)
    # Where one part is left, it is a key of another kind.
    while circle.kind == kind:
        needed = needed_parts(circle, known)
        shorter = built(kind, [replaced(part, circle, known) for part in needed])
        if shorter == circle:
            return ordered(circle)
        circle = shorter
    return circle


def is_idle(kind, one, other, known):
    """Whether a pool or a common, as kind says, of two circles is always alike to the other one alone."""
    if kind == "pool":
        return told(other, one, known)
    return told(one, other, known)


def needed_parts(circle, known):
    """The list of the parts of a circle, all of them keys, that are not idle beside another part."""
    # No two of these parts are always alike, as they are unlike keys: so no two are idle beside one another.
    return [part for part in circle.parts()
            if not any([is_idle(circle.kind, part, other, known) for other in circle.parts() if other != part])]


def replaced(part, whole, known):
    """What stands in a key for a part of a circle: the part, or one of its own parts that can do so."""
    for inner in part.parts():
        if is_idle(whole.kind, inner, whole, known):
            return inner
    return part


def ordered(circle):
    """The circle with its parts in ascending order of their texts."""
    parts = {str(part): part for part in circle.parts()}
    return built(circle.kind, [parts[text] for text in sorted(parts)])
