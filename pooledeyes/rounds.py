"""Plans done again and again."""

from pooledeyes.books import Book
from pooledeyes.circles import eye
from pooledeyes.errors import InvalidNumber, NotPooled, TooMany
from pooledeyes.plans import images_behind
from pooledeyes.words import is_number

MOST_STILL = 7
MOST_IN_WORLD = 100


def is_pooled(plan):
    """Whether each share of a plan learns an eye or a pool of eyes."""
    return is_plain(plan, "learns", "pool")


def is_blurred(plan):
    """Whether each share of a plan blurs with an eye or a common of eyes."""
    return is_plain(plan, "blurs", "common")


def is_plain(plan, word, kind):
    """Whether each share of a plan has a word and an eye, or a circle of a kind whose parts are eyes."""
    return all([share[0] == word and is_flat(share[2], kind) for share in plan.shares()])


def is_flat(circle, kind):
    """Whether a circle is an eye, or one of a kind whose parts are eyes."""
    return circle.depth == 0 or (circle.depth == 1 and circle.kind == kind)


def stands_still(plan, *, most=4):
    """The least number of rounds, up to most, after which a plan stands still, None if there is none."""
    if not is_number(most, 0, MOST_STILL):
        raise InvalidNumber(most)
    images = plan.images(rounds=0)
    for rounds in range(most + 1):
        further = images_behind(plan.shares(), images)
        if further == images:
            return rounds
        images = further
    return None


def pooled_book(plan):
    """The book of a pooled plan."""
    if not is_pooled(plan):
        raise NotPooled()
    grants = []
    for _, name, circle in plan.shares():
        for part in circle.parts() or [circle]:
            grant = (eye(name), part.name)
            if part.name != name and grant not in grants:
                grants.append(grant)
    return Book(*grants)


def world_rounds(plan, world):
    """The pair of the beginning and the period of the rounds of a plan in a world."""
    worlds = []
    while world not in worlds:
        worlds.append(world)
        if len(worlds) > MOST_IN_WORLD:
            raise TooMany("rounds", MOST_IN_WORLD)
        world = plan.done(world)
    beginning = worlds.index(world)
    return beginning, len(worlds) - beginning
