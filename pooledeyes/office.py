"""Offices: things kept under names, with deeds, questions and a history.

The things are a dict from names to tuples (kind, thing, hook): kind is world,
guard, plan or sketch, and hook is the name of the guard on which a sketch hangs,
the empty string for all others. A sketch is kept without its book. Such a dict
never changes: a deed makes a new one, so nothing is left of deeds that are refused.
"""

from pooledeyes.books import Book
from pooledeyes.carrying import unkept_behind
from pooledeyes.circletexts import read_circle
from pooledeyes.errors import (InUse, InvalidDeed, InvalidQuestion, InvalidShare, NameTaken, NothingLeft,
                               TooMany, UnknownName)
from pooledeyes.guards import Guard
from pooledeyes.musts import lean, must_tell
from pooledeyes.plans import Plan, WORDS
from pooledeyes.sketches import Sketch
from pooledeyes.words import is_name
from pooledeyes.worlds import World, check_names

MOST_THINGS = 12


def check_fresh(things, name):
    """Refuse any value under which no new thing can be kept."""
    check_names((name,))
    if name in things:
        raise NameTaken(name)
    if len(things) >= MOST_THINGS:
        raise TooMany("names", MOST_THINGS)


def thing_in(things, kind, name):
    """The thing of a kind with a name; a sketch without its book."""
    if not is_name(name) or name not in things or things[name][0] != kind:
        raise UnknownName(name)
    return things[name][1]


def sketch_in(things, name):
    """The sketch with a name, with the book of its guard."""
    sketch = thing_in(things, "sketch", name)
    guard = thing_in(things, "guard", things[name][2])
    return sketch.with_book(guard.book)


def with_thing(things, name, kind, thing):
    """The things with a thing under a name, a new one or one in place of another of its kind."""
    hook = things[name][2] if name in things else ""
    return {**things, name: (kind, thing, hook)}


# The deeds: each function is passed the things and the items behind the word, and returns the things behind the deed.


def keep_world(things, name, text):
    """Keep the world with a text."""
    check_fresh(things, name)
    return with_thing(things, name, "world", World.read(text))


def keep_guard(things, name):
    """Keep a guard without grants and bans."""
    check_fresh(things, name)
    return with_thing(things, name, "guard", Guard(Book()))


def keep_plan(things, name):
    """Keep the plan without shares."""
    check_fresh(things, name)
    return with_thing(things, name, "plan", Plan())


def keep_sketch(things, name, hook, many):
    """Keep a sketch of so many cases without sayings, which hangs on a guard."""
    check_fresh(things, name)
    thing_in(things, "guard", hook)
    return {**things, name: ("sketch", Sketch(many), hook)}


def put_grant(things, name, text, shown):
    """Put a grant behind the others of a guard."""
    guard = thing_in(things, "guard", name)
    circle = read_circle(text)
    check_names((shown,))
    return with_thing(things, name, "guard", guard.with_book(guard.book.with_grant(circle, shown)))


def take_grant(things, name, at):
    """Take the grant with an index away from a guard."""
    guard = thing_in(things, "guard", name)
    return with_thing(things, name, "guard", guard.with_book(guard.book.without(at)))


def put_ban(things, name, text, told):
    """Put a ban behind the others of a guard."""
    guard = thing_in(things, "guard", name)
    return with_thing(things, name, "guard", guard.with_ban(read_circle(text), read_circle(told)))


def take_ban(things, name, at):
    """Take the ban with an index away from a guard."""
    guard = thing_in(things, "guard", name)
    return with_thing(things, name, "guard", guard.without_ban(at))


def put_saying(things, name, word, text, one, other):
    """Put a saying behind the others of a sketch."""
    sketch = thing_in(things, "sketch", name)
    return with_thing(things, name, "sketch", sketch.with_saying(word, read_circle(text), one, other))


def take_saying(things, name, at):
    """Take the saying with an index away from a sketch."""
    sketch = thing_in(things, "sketch", name)
    return with_thing(things, name, "sketch", sketch.without(at))


def put_share(things, name, word, shown, last):
    """Put a share behind the others of a plan."""
    plan = thing_in(things, "plan", name)
    if word not in WORDS:
        raise InvalidShare(len(plan))
    if word != "swaps":
        last = read_circle(last)
    shares = plan.shares() + [(word, shown, last)]
    return with_thing(things, name, "plan", Plan(*shares))


def run_plan(things, name, place):
    """Do a plan in a world, which stays under its name."""
    plan = thing_in(things, "plan", name)
    world = thing_in(things, "world", place)
    return with_thing(things, place, "world", plan.done(world))


def put_tie(things, name, shown, one, other):
    """Add a tie to a world."""
    world = thing_in(things, "world", name)
    return with_thing(things, name, "world", world.tied(shown, one, other))


def drop_thing(things, name):
    """Forget a thing."""
    if not is_name(name) or name not in things:
        raise UnknownName(name)
    if name in [hook for _, _, hook in things.values()]:
        raise InUse(name)
    return {other: things[other] for other in things if other != name}


DEEDS = {
    "world": keep_world, "guard": keep_guard, "plan": keep_plan, "sketch": keep_sketch, "grant": put_grant,
    "take": take_grant, "ban": put_ban, "unban": take_ban, "say": put_saying, "unsay": take_saying,
    "share": put_share, "run": run_plan, "tie": put_tie, "drop": drop_thing,
}
DEED_SIZES = {
    "world": 3, "guard": 2, "plan": 2, "sketch": 4, "grant": 4, "take": 3, "ban": 4, "unban": 3, "say": 6, "unsay": 3,
    "share": 5, "run": 3, "tie": 5, "drop": 2,
}


# The questions: each function is passed the things and the items behind the word, and returns the answer.


def names_of(things):
    """The ascending list of all names."""
    return sorted(things)


def kind_of(things, name):
    """The kind of the thing with a name."""
    if not is_name(name) or name not in things:
        raise UnknownName(name)
    return things[name][0]


def told_under(things, name, text, told):
    """Whether one circle must tell another one under the book of a guard."""
    guard = thing_in(things, "guard", name)
    t = read_circle(text)
    s = read_circle(told)
    return must_tell(guard.book, t, s)


def safe_by(things, name):
    """Whether the book of a guard is safe."""
    return thing_in(things, "guard", name).is_safe()


def lean_text(things, name):
    """The text of the lean book of a guard."""
    return lean(thing_in(things, "guard", name).book).text()


def kept_in(things, name, guard):
    """Whether a world keeps the book of a guard."""
    world = thing_in(things, "world", name)
    return thing_in(things, "guard", guard).book.kept_by(world)


def alike_in(things, name, text, one, other):
    """Whether two cases of a world are alike to a circle."""
    world = thing_in(things, "world", name)
    return world.alike(read_circle(text), one, other)


def world_text(things, name):
    """The text of a world."""
    return thing_in(things, "world", name).text()


def image_text(things, name, shown):
    """The text of the image of an eye under a plan."""
    return str(thing_in(things, "plan", name).image(shown))


def carried_by(things, name, guard):
    """Whether all grants of the book of a guard are surely kept behind a plan under this book."""
    plan = thing_in(things, "plan", name)
    return unkept_behind(plan, thing_in(things, "guard", guard).book) is None


def stands_now(things, name):
    """Whether a sketch stands."""
    return sketch_in(things, name).stands()


def outlook_now(things, name, text, one, other):
    """The outlook of a circle and two cases in a sketch."""
    sketch = sketch_in(things, name)
    return sketch.outlook(read_circle(text), one, other)


QUESTIONS = {
    "names": names_of, "kind": kind_of, "tells": told_under, "safe": safe_by, "lean": lean_text, "keeps": kept_in,
    "alike": alike_in, "text": world_text, "image": image_text, "carries": carried_by, "stands": stands_now,
    "outlook": outlook_now,
}
QUESTION_SIZES = {
    "names": 1, "kind": 2, "tells": 4, "safe": 2, "lean": 2, "keeps": 3, "alike": 5, "text": 2, "image": 3,
    "carries": 3, "stands": 2, "outlook": 5,
}


def has_form(value, sizes):
    """Whether any value is a tuple that begins with a word of a dict and has as many items as it tells."""
    if not isinstance(value, tuple) or len(value) == 0 or not isinstance(value[0], str):
        return False
    return len(value) == sizes.get(value[0], 0)


def things_behind(things, deeds):
    """The things behind some deeds."""
    sizes = dict(DEED_SIZES)
    for at, deed in enumerate(deeds):
        if not has_form(deed, sizes):
            raise InvalidDeed(at)
    for deed in deeds:
        action = DEEDS[deed[0]]
        rest = deed[1:]
        things = action(things, *rest)
    return things


def answer_to(things, question):
    """The answer to a question about things."""
    if not has_form(question, dict(QUESTION_SIZES)):
        raise InvalidQuestion()
    action = QUESTIONS[question[0]]
    rest = question[1:]
    return action(things, *rest)


class Office:
    """Things under names, with a history of steps."""

    def __init__(self):
        # The steps that can be undone and, behind them, those that can be done again.
        self._steps = []
        # The things at the beginning and behind each of these steps.
        self._states = [{}]
        self._place = 0
        self._busy = False

    @property
    def busy(self):
        """Whether deeds are being done or tried."""
        return self._busy

    def _now(self):
        """The things at the moment."""
        return self._states[self._place]

    def _behind(self, deeds):
        """The things behind some deeds, which are not done in the office itself."""
        self._busy = True
        try:
            return things_behind(self._now(), deeds)
        finally:
            self._busy = False

    def do(self, *deeds):
        """Do some deeds, all or none."""
        things = self._behind(deeds)
        if len(deeds) > 0:
            self._steps = self._steps[:self._place] + [deeds]
            self._states = self._states[:self._place + 1] + [things]
            self._place += 1

    def undo(self):
        """Take the last step back."""
        if self._place == 0:
            raise NothingLeft()
        self._place -= 1

    def redo(self):
        """Do the step again that was taken back last."""
        if self._place == len(self._steps):
            raise NothingLeft()
        self._place += 1

    def history(self):
        """The pair of the numbers of steps that can be undone and redone."""
        return self._place, len(self._steps) - self._place

    def journal(self):
        """The list of the steps that can be undone, each the tuple of its deeds."""
        return self._steps[:self._place]

    def ask(self, *question):
        """The answer to a question, whose items are passed."""
        return answer_to(self._now(), question)

    def tried(self, deeds, question):
        """The answer to a question behind some deeds, while the office stays as it is."""
        return answer_to(self._behind(deeds), question)

    def world_of(self, name):
        """The world with a name."""
        return thing_in(self._now(), "world", name)

    def guard_of(self, name):
        """The guard with a name."""
        return thing_in(self._now(), "guard", name)

    def plan_of(self, name):
        """The plan with a name."""
        return thing_in(self._now(), "plan", name)

    def sketch_of(self, name):
        """The sketch with a name, with the book of its guard."""
        return sketch_in(self._now(), name)

    def twin(self):
        """An independent office in the same state, with its history."""
        other = Office()
        other._steps = list(self._steps)
        other._states = list(self._states)
        other._place = self._place
        return other

    def __contains__(self, x):
        return is_name(x) and x in self._now()

    def __eq__(self, other):
        return isinstance(other, Office) and self._now() == other._now()

    def __bool__(self):
        return True

    def __len__(self):
        return len(self._now())

    def __repr__(self):
        return f"Office({len(self._now())} things)"


def replayed(journal):
    """An office in which the steps of a journal are done, one call for each."""
    office = Office()
    for step in journal:
        office.do(*step)
    return office
