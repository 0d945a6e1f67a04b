"""A second, plain way to find images and to do plans, and random plans."""

from pooledeyes.circletexts import read_circle
from pooledeyes.errors import TooMany
from pooledeyes.keys import key_of
from pooledeyes.partings import join_of, meet_of
from pooledeyes.plans import Plan
from pooledeyes.worlds import World
from tests.plain import plain_built, plain_of, plain_put_in, plain_text
from tests.plainworlds import random_circle

NAMES = ["a", "b", "c", "d", "long", "sixsix"]


def plain_images(shares, rounds):
    """A dict from the names that shares write to the texts of their images, by the words of the document."""
    names = set()
    for word, x, last in shares:
        names |= {x, last} if word == "swaps" else {x, *last.eyes()}
    images = {name: name for name in names}
    for word, x, last in list(shares) * rounds:
        if word == "swaps":
            images[x], images[last] = images[last], images[x]
        else:
            built = plain_of(last)
            if word != "becomes":
                built = plain_built("&" if word == "learns" else "|", [x, built])
            put = plain_put_in(built, {name: plain_of(read_circle(text)) for name, text in images.items()})
            images[x] = str(key_of(read_circle(plain_text(put))))
    return images


def plain_done(shares, world, rounds=1):
    """The world behind some shares, done so often."""
    for word, x, last in list(shares) * rounds:
        partings = world.partings()
        seen = {name: partings.get(name, tuple(range(1, world.many + 1))) for name in [x] + NAMES}
        if word == "swaps":
            partings[x], partings[last] = world.parting(read_circle(last)), seen[x]
        else:
            told = world.parting(last)
            partings[x] = {"learns": meet_of, "blurs": join_of, "becomes": lambda _, other: other}[word](seen[x], told)
        world = World.parted(world.many, partings)
    return world


def random_share(source, size, words):
    """A share with a circle of at most so many written eyes."""
    word = source.choice(words)
    if word == "swaps":
        return (word, *source.sample(NAMES, 2))
    return (word, source.choice(NAMES), random_circle(source, size))


def random_plan(source, most=4, size=3, words=("learns", "blurs", "becomes", "swaps")):
    """A plan of at most so many shares."""
    while True:
        shares = [random_share(source, size, words) for _ in range(source.randint(0, most))]
        try:
            return Plan(*shares)
        except TooMany:
            pass
