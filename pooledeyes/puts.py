"""Putting circles in for eyes, mirroring, and exchanging eyes."""

from pooledeyes.circles import built, eye, without_repeats

MIRRORED = {"pool": "common", "common": "pool"}


def put_in(circle, images):
    """The circle built anew with the images, a dict from names to circles, in place of eyes."""
    if circle.kind == "eye":
        return images.get(circle.name, circle)
    return built(circle.kind, [put_in(part, images) for part in circle.parts()])


def mirrored(circle):
    """The circle built anew with pools in place of commons and commons in place of pools."""
    if circle.kind == "eye":
        return circle
    return built(MIRRORED[circle.kind], [mirrored(part) for part in circle.parts()])


def exchanged(circle, first, second):
    """The circle with two eyes, by their names, exchanged."""
    one = eye(first)
    other = eye(second)
    return put_in(circle, {first: other, second: one})


def circles_in(circle):
    """The list of the circle and of all circles in it, each text where it comes first."""
    found = [circle]
    for part in circle.parts():
        found.extend(circles_in(part))
    return without_repeats(found)
