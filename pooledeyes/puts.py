"""Putting circles in for eyes, mirroring, exchanging eyes, and putting eyes out."""

from pooledeyes.circles import built, eye, without_repeats

MIRRORED = {"pool": "common", "common": "pool"}


def put_in(circle, images):
    """The circle built anew with the images, a dict from names to circles, in place of eyes."""
    if circle.kind == "eye":
        return images.get(circle.name, circle)
    return built(circle.kind, [put_in(part, images) for part in circle.parts()])


def mirrored(circle):
    """The circle built anew with pools in place of commons and commons in place of pools."""
    if circle.kind == "eye":
        return circle
    return built(MIRRORED[circle.kind], [mirrored(part) for part in circle.parts()])


def exchanged(circle, first, second):
    """The circle with two eyes, by their names, exchanged."""
    one = eye(first)
    other = eye(second)
    return put_in(circle, {first: other, second: one})


def circles_in(circle):
    """The list of the circle and of all circles in it, each text where it comes first."""
    found = [circle]
    for part in circle.parts():
        found.extend(circles_in(part))
    return without_repeats(found)


def put_out(circle, names, thinned):
    """The circle built anew without some eyes, None if nothing is left.

    What is put out is left out of the parts of a circle of the kind thinned, and
    takes all of a circle of the other kind with it: above, an eye that is put out
    sees nothing, so pools are thinned; beneath, it sees all, so commons are.
    """
    if circle.kind == "eye":
        return None if circle.name in names else circle
    parts = [put_out(part, names, thinned) for part in circle.parts()]
    left = [part for part in parts if part is not None]
    if len(left) == 0 or (circle.kind != thinned and len(left) < len(parts)):
        return None
    return built(circle.kind, left)
