"""Circles without the package: a second, plain way to build and to write them.

A plain circle is a string, the name of an eye, or a tuple of a sign, & or |,
and the list of its parts.
"""


class PlainTooMany(Exception):
    """A plain circle would be too great; what tells in which way."""

    def __init__(self, what):
        super().__init__(what)
        self.what = what


def plain_text(circle):
    """The text of a plain circle."""
    if isinstance(circle, str):
        return circle
    sign, parts = circle
    return f" {sign} ".join(part if isinstance(part, str) else "(" + plain_text(part) + ")" for part in parts)


def plain_eyes(circle):
    """The written eyes of a plain circle, each as often as it stands there."""
    if isinstance(circle, str):
        return [circle]
    return [name for part in circle[1] for name in plain_eyes(part)]


def plain_depth(circle):
    """The depth of a plain circle."""
    if isinstance(circle, str):
        return 0
    return 1 + max(plain_depth(part) for part in circle[1])


def plain_built(sign, circles):
    """The pool, for &, or the common, for |, of plain circles."""
    flat = []
    for circle in circles:
        flat += circle[1] if not isinstance(circle, str) and circle[0] == sign else [circle]
    parts = [part for at, part in enumerate(flat) if part not in flat[:at]]
    if len(parts) == 1:
        return parts[0]
    built = (sign, parts)
    if len(plain_eyes(built)) > 60:
        raise PlainTooMany("eyes")
    if plain_depth(built) > 20:
        raise PlainTooMany("depth")
    return built


def plain_put_in(circle, images):
    """A plain circle with plain images put in for its eyes."""
    if isinstance(circle, str):
        return images.get(circle, circle)
    return plain_built(circle[0], [plain_put_in(part, images) for part in circle[1]])


def plain_of(circle):
    """The plain circle of a circle of the package."""
    if circle.kind == "eye":
        return circle.name
    return ("&" if circle.kind == "pool" else "|", [plain_of(part) for part in circle.parts()])


def random_plain(source, size):
    """A plain circle of at most so many written eyes; source makes the choices."""
    if size == 1:
        return source.choice(["a", "b", "c", "d", "long", "sixsix"])
    many = source.randint(2, min(size, 4))
    sizes = [1] * many
    for _ in range(size - many):
        sizes[source.randrange(many)] += 1
    return plain_built(source.choice("&|"), [random_plain(source, one) for one in sizes])
