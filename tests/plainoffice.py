"""A second, plain office, which keeps lists of what its things have and does deeds by the words of the document."""

from pooledeyes.books import Book
from pooledeyes.circletexts import read_circle
from pooledeyes.errors import (InUse, InvalidCase, InvalidName, InvalidNumber, InvalidSaying, InvalidShare, NameTaken,
                               TooMany, UnknownBan, UnknownGrant, UnknownName, UnknownSaying)
from pooledeyes.frames import count_ties
from pooledeyes.guards import Guard
from pooledeyes.plans import Plan
from pooledeyes.sketches import Sketch
from pooledeyes.worlds import World
from tests.plainlogs import is_number


def is_name(value):
    """Whether a value is a name."""
    return isinstance(value, str) and 1 <= len(value) <= 6 and all("a" <= letter <= "z" for letter in value)


class PlainOffice:
    """Things under names: a world, or a dict of lists and of what else a thing has."""

    def __init__(self):
        self.worlds, self.guards, self.plans, self.sketches = {}, {}, {}, {}

    def copy(self):
        """Another office with the same things."""
        other = PlainOffice()
        for kept, mine in zip(other.kinds(), self.kinds()):
            kept.update({name: {key: list(item) if isinstance(item, list) else item for key, item in thing.items()}
                         for name, thing in mine.items()})
        return other

    def kinds(self):
        """The four dicts of things."""
        return [self.worlds, self.guards, self.plans, self.sketches]

    def names(self):
        """The ascending list of all names."""
        return sorted(name for kind in self.kinds() for name in kind)

    def fresh(self, name):
        """Refuse a name for a new thing."""
        if not is_name(name):
            raise InvalidName(name)
        if name in self.names():
            raise NameTaken(name)
        if len(self.names()) == 12:
            raise TooMany("names", 12)

    def known(self, things, name):
        """The thing with a name."""
        if not isinstance(name, str) or name not in things:
            raise UnknownName(name)
        return things[name]

    def done(self, deed):
        """Do one deed."""
        getattr(self, "do_" + deed[0])(*deed[1:])

    def do_world(self, name, text):
        self.fresh(name)
        self.worlds[name] = {"world": World.read(text)}

    def do_guard(self, name):
        self.fresh(name)
        self.guards[name] = {"grants": [], "bans": []}

    def do_plan(self, name):
        self.fresh(name)
        self.plans[name] = {"shares": []}

    def do_sketch(self, name, guard, many):
        self.fresh(name)
        self.known(self.guards, guard)
        if not is_number(many, 1, 8):
            raise InvalidNumber(many)
        self.sketches[name] = {"guard": guard, "many": many, "sayings": []}

    def do_grant(self, guard, text, eye):
        grants = self.known(self.guards, guard)["grants"]
        circle = read_circle(text)
        if not is_name(eye):
            raise InvalidName(eye)
        if len(grants) == 12:
            raise TooMany("grants", 12)
        grants.append((circle, eye))

    def do_take(self, guard, at):
        grants = self.known(self.guards, guard)["grants"]
        if not is_number(at, 0, len(grants) - 1):
            raise UnknownGrant(at)
        del grants[at]

    def do_ban(self, guard, text, told):
        bans = self.known(self.guards, guard)["bans"]
        ban = (read_circle(text), read_circle(told))
        if len(bans) == 8:
            raise TooMany("bans", 8)
        if count_ties(ban[0]) > 256:
            raise TooMany("ties", 256)
        bans.append(ban)

    def do_unban(self, guard, at):
        bans = self.known(self.guards, guard)["bans"]
        if not is_number(at, 0, len(bans) - 1):
            raise UnknownBan(at)
        del bans[at]

    def do_say(self, sketch, word, text, u, v):
        thing = self.known(self.sketches, sketch)
        circle = read_circle(text)
        right = isinstance(word, str) and word in ("alike", "unlike")
        if not right or not is_number(u, 1, thing["many"]) or not is_number(v, 1, thing["many"]):
            raise InvalidSaying(len(thing["sayings"]))
        if len(thing["sayings"]) == 12:
            raise TooMany("sayings", 12)
        sayings = thing["sayings"] + [(word, circle, u, v)]
        if sum(count_ties(saying[1]) for saying in sayings if saying[0] == "alike") > 256:
            raise TooMany("ties", 256)
        thing["sayings"] = sayings

    def do_unsay(self, sketch, at):
        sayings = self.known(self.sketches, sketch)["sayings"]
        if not is_number(at, 0, len(sayings) - 1):
            raise UnknownSaying(at)
        del sayings[at]

    def do_share(self, plan, word, eye, last):
        shares = self.known(self.plans, plan)["shares"]
        if not isinstance(word, str) or word not in ("learns", "blurs", "becomes", "swaps"):
            raise InvalidShare(len(shares))
        if word != "swaps":
            last = read_circle(last)
        elif not is_name(last) or last == eye:
            raise InvalidShare(len(shares))
        if not is_name(eye):
            raise InvalidShare(len(shares))
        shares[:] = Plan(*shares, (word, eye, last)).shares()

    def do_run(self, plan, world):
        shares = self.known(self.plans, plan)["shares"]
        thing = self.known(self.worlds, world)
        thing["world"] = Plan(*shares).done(thing["world"])

    def do_tie(self, world, eye, u, v):
        thing = self.known(self.worlds, world)
        if not is_name(eye):
            raise InvalidName(eye)
        for case in [u, v]:
            if not is_number(case, 1, thing["world"].many):
                raise InvalidCase(case)
        thing["world"] = thing["world"].tied(eye, u, v)

    def do_drop(self, name):
        self.known({known: True for known in self.names()}, name)
        if name in [thing["guard"] for thing in self.sketches.values()]:
            raise InUse(name)
        for kind in self.kinds():
            kind.pop(name, None)

    def guard(self, name):
        """The guard with a name."""
        thing = self.guards[name]
        return Guard(Book(*thing["grants"]), *thing["bans"])

    def plan(self, name):
        """The plan with a name."""
        return Plan(*self.plans[name]["shares"])

    def sketch(self, name):
        """The sketch with a name."""
        thing = self.sketches[name]
        return Sketch(thing["many"], *thing["sayings"], under=self.guard(thing["guard"]).book)


def random_deed(source):
    """A deed that is mostly right for an office with the worlds u and w, the guards g and h and so on."""
    word = source.choice(["world", "guard", "plan", "sketch", "grant", "grant", "take", "ban", "ban", "unban", "say",
                          "say", "unsay", "share", "share", "run", "tie", "drop"])
    name = source.choice(["u", "w", "g", "h", "p", "q", "s", "t", "x"])
    text = source.choice(["a", "b", "a & b", "a | b", "c", "(a | c) & b", "(a & b) | d", "a &", "", "b & (b | c)",
                          None])
    other = source.choice(["a", "b", "c", "a | c", "a & (b | c)", "a b"])
    eye = source.choice(["a", "b", "c", "d", "e", "A", 1])
    number = source.choice([0, 0, 0, 1, 1, 2, 3, -1, True, None])
    case, last = source.choice([1, 1, 2, 2, 3, 4, 0, "1"]), source.choice([1, 2, 2, 3, 3, 9, None])
    parts = {
        "world": (source.choice(["u", "w", name]), source.choice(["cases 3\na 1 1 3\n", "cases 2\n", "cases 2"])),
        "guard": (source.choice(["g", "h", name]),), "plan": (source.choice(["p", "q", name]),),
        "sketch": (source.choice(["s", "t", name]), source.choice(["g", "h", name]), source.choice([2, 3, 8, 9])),
        "grant": (source.choice(["g", "h", name]), text, eye), "take": (source.choice(["g", "h"]), number),
        "ban": (source.choice(["g", "h", name]), text, other), "unban": (source.choice(["g", "h", name]), number),
        "say": (source.choice(["s", "t", name]), source.choice(["alike", "alike", "unlike", "like"]), text, case, last),
        "unsay": (source.choice(["s", "t"]), number),
        "share": (source.choice(["p", "q", name]), source.choice(["learns", "blurs", "becomes", "swaps", "sees"]),
                  eye, source.choice([text, other, "b"])),
        "run": (source.choice(["p", "q", name]), source.choice(["u", "w", name])),
        "tie": (source.choice(["u", "w", name]), eye, case, last), "drop": (name,),
    }
    return (word,) + parts[word]
