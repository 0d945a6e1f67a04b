"""Plans: what eyes see from then on, by what they and others saw."""

from pooledeyes.circles import Circle, common, eye, pool
from pooledeyes.errors import InvalidNumber, InvalidShare, TooMany, UnknownShare
from pooledeyes.keys import key_of
from pooledeyes.partings import joined, met
from pooledeyes.puts import put_in
from pooledeyes.words import is_name, is_number
from pooledeyes.worlds import check_names, world_with

WORDS = ("learns", "blurs", "becomes", "swaps")
MOST_ROUNDS = 8


def is_share(value):
    """Whether any value is a share."""
    if not isinstance(value, tuple) or len(value) != 3:
        return False
    word, name, last = value
    if word not in WORDS or not is_name(name):
        return False
    if word == "swaps":
        return is_name(last) and last != name
    return isinstance(last, Circle)


def check_rounds(value):
    """Refuse a value that is no number of rounds."""
    if not is_number(value, 0, MOST_ROUNDS):
        raise InvalidNumber(value)


def eyes_of(share):
    """The list of the names that a share writes."""
    word, name, last = share
    if word == "swaps":
        return [name, last]
    return [name] + last.eyes()


def circle_of(share):
    """The circle of what the eye of a share, one that is no swap, sees from then on."""
    word, name, last = share
    if word == "learns":
        return pool(eye(name), last)
    if word == "blurs":
        return common(eye(name), last)
    return last


def images_behind(shares, images):
    """A dict of the images behind some shares, where a dict has those ahead of them for all eyes of the shares."""
    found = dict(images)
    for share in shares:
        name = share[1]
        if share[0] == "swaps":
            other = share[2]
            found[name], found[other] = found[other], found[name]
        else:
            found[name] = key_of(put_in(circle_of(share), found))
    return found


def world_behind(world, share):
    """The world behind a share."""
    word, name, last = share
    if word == "swaps":
        return world.exchanged(name, last)
    parting = world.parting(last)
    if word == "learns":
        parting = met([world.parting_named(name), parting])
    if word == "blurs":
        parting = joined([world.parting_named(name), parting])
    return world_with(world.many, {**world.partings(), name: parting})


class Plan:
    """A row of shares. It never changes."""

    LIMIT = 12

    def __init__(self, *shares):
        for at, value in enumerate(shares):
            if not is_share(value):
                raise InvalidShare(at)
        if len(shares) > Plan.LIMIT:
            raise TooMany("shares", Plan.LIMIT)
        self._shares = list(shares)
        self._eyes = sorted(set([name for share in shares for name in eyes_of(share)]))
        # Those of one round, which most questions need, and which are refused here if they are too great.
        self._images = images_behind(shares, {name: eye(name) for name in self._eyes})

    def shares(self):
        """The list of the shares."""
        return list(self._shares)

    def eyes(self):
        """The ascending list of the names of the eyes that the shares write."""
        return list(self._eyes)

    def image(self, name, *, rounds=1):
        """The image of any eye in so many rounds."""
        check_names((name,))
        return self.images(rounds=rounds).get(name, eye(name))

    def images(self, *, rounds=1):
        """A dict from the eyes of the plan, ascending, to their images in so many rounds."""
        check_rounds(rounds)
        if rounds == 0:
            return {name: eye(name) for name in self._eyes}
        images = dict(self._images)
        for _ in range(rounds - 1):
            images = images_behind(self._shares, images)
        return images

    def pulled(self, circle, *, rounds=1):
        """A circle pulled back through so many rounds."""
        return key_of(put_in(circle, self.images(rounds=rounds)))

    def done(self, world, *, rounds=1):
        """The world behind so many rounds of the plan."""
        check_rounds(rounds)
        for share in self._shares * rounds:
            world = world_behind(world, share)
        return world

    def alike(self, other):
        """Whether all eyes have the same images under two plans."""
        return self.unlike_eye(other) is None

    def unlike_eye(self, other):
        """The first eye that has unlike images under two plans, None if there is none."""
        for name in sorted(set(self._eyes + other._eyes)):
            if self.image(name) != other.image(name):
                return name
        return None

    def needless(self):
        """The ascending list of the indexes of the needless shares."""
        return [at for at in range(len(self._shares)) if self.without(at).alike(self)]

    def exchangeable(self, at):
        """Whether the share with an index and the next one are exchangeable."""
        if not is_number(at, 0, len(self._shares) - 2):
            raise UnknownShare(at)
        turned = self._shares[:at] + [self._shares[at + 1], self._shares[at]] + self._shares[at + 2:]
        return Plan(*turned).alike(self)

    def lost(self):
        """The ascending list of the lost eyes."""
        images = list(self._images.values())
        return [name for name in self._eyes if eye(name) not in images]

    def taken_back(self):
        """A plan that takes this one back if it is done behind it, None if there is none."""
        if self.lost():
            return None
        # Where no eye is lost, each share that is no swap leaves all eyes as they are.
        swaps = [share for share in self._shares if share[0] == "swaps"]
        back = swaps[::-1]
        return Plan(*back)

    def without(self, at):
        """The plan without the share with an index."""
        if not is_number(at, 0, len(self._shares) - 1):
            raise UnknownShare(at)
        rest = self._shares[:at] + self._shares[at + 1:]
        return Plan(*rest)

    def followed_by(self, other):
        """The plan that does its shares and then those of another one."""
        shares = self._shares + other._shares
        return Plan(*shares)

    def __eq__(self, other):
        return isinstance(other, Plan) and self._shares == other._shares

    def __bool__(self):
        return True

    def __len__(self):
        return len(self._shares)

    def __repr__(self):
        return f"Plan({len(self._shares)} shares)"
