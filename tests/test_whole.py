"""The whole program: what offices tell agrees with all else that can be asked about their things."""

import random

from pooledeyes.carrying import broken_behind, unkept_behind
from pooledeyes.chains import chain_between, is_chain, wall_between, wall_stands
from pooledeyes.circletexts import read_circle
from pooledeyes.closings import closed_world, closing_log, walked
from pooledeyes.errors import PooledError, TooMany
from pooledeyes.events import around, is_known
from pooledeyes.musts import books_alike, closed_frame
from pooledeyes.office import Office, replayed
from pooledeyes.papers import guard_paper, is_guard_paper, is_paper, paper_for
from pooledeyes.refuters import least_refuter
from pooledeyes.sketchpapers import is_outlook_paper, is_sketch_paper, outlook_paper, sketch_paper
from pooledeyes.tables import derivation_of, is_derivation
from pooledeyes.worlds import World
from tests.plainoffice import random_deed
from tests.refusing import RefusingTest
from tests.test_office import begun

CIRCLES = ["a", "b", "c", "a & b", "a | b", "a & (b | c)", "(a & c) | b"]


def random_offices(seed, count, calls):
    """So many offices in which right random deeds are done."""
    source = random.Random(seed)
    for _ in range(count):
        office = begun(("guard", "h"), ("world", "u", "cases 4\na 1 1 3 3\nb 1 2 2 4\n"))
        for _ in range(calls):
            try:
                office.do(random_deed(source))
            except (PooledError, LookupError):
                continue
        yield office, source


def named(office, kind):
    """The names of the things of a kind."""
    return [name for name in office.ask("names") if office.ask("kind", name) == kind]


class WholeTest(RefusingTest):
    def test_worlds(self):
        seen = set()
        for office, source in random_offices(181, 30, 30):
            for name in named(office, "world"):
                world = office.world_of(name)
                self.assertEqual(World.read(office.ask("text", name)), world)
                text = source.choice(CIRCLES)
                circle, u, v = read_circle(text), source.randint(1, world.many), source.randint(1, world.many)
                alike = office.ask("alike", name, text, u, v)
                chain, barrier = chain_between(world, circle, u, v), wall_between(world, circle, u, v)
                self.assertEqual([chain is not None, barrier is None], [alike, alike])
                self.assertTrue(is_chain(world, circle, u, v, chain) if alike else wall_stands(world, circle, barrier))
                self.assertEqual(v in around(world, circle, [u]), alike)
                rest = [case for case in range(1, world.many + 1) if case != v]
                self.assertEqual(is_known(world, circle, rest, u), not alike)
                for guard in named(office, "guard"):
                    book = office.guard_of(guard).book
                    kept = office.ask("keeps", name, guard)
                    self.assertEqual([closing_log(world, book) == [], closed_world(world, book) == world], [kept, kept])
                    self.assertEqual(walked(world, book, closing_log(world, book)), closed_world(world, book))
                    seen.add((alike, kept))
        self.assertEqual(len(seen), 4)

    def test_guards(self):
        seen = set()
        for office, source in random_offices(182, 30, 40):
            for name in named(office, "guard"):
                guard = office.guard_of(name)
                paper = guard_paper(guard)
                self.assertTrue(is_guard_paper(guard, paper))
                self.assertEqual([paper[0] == "safe", guard.is_safe()], [office.ask("safe", name)] * 2)
                text, told = source.choice(CIRCLES), source.choice(CIRCLES)
                t, s = read_circle(text), read_circle(told)
                tells = office.ask("tells", name, text, told)
                self.assertEqual(paper_for(guard.book, t, s)[0], "told" if tells else "untold")
                self.assertTrue(is_paper(guard.book, t, s, paper_for(guard.book, t, s)))
                self.assertEqual(is_derivation(guard.book, t, s, derivation_of(guard.book, t, s)), tells)
                self.assertEqual(closed_frame(guard.book, t).alike(s, 1, 2), tells)
                if tells and len(set(t.eyes() + s.eyes() + guard.book.eyes())) < 5:
                    self.assertIsNone(least_refuter(t, s, under=guard.book))
                lean_book = guard.book.__class__.read(office.ask("lean", name))
                self.assertTrue(books_alike(lean_book, guard.book))
                self.assertEqual(office.ask("tells", name, text, told), tells)
                seen.add((office.ask("safe", name), tells))
        self.assertEqual(len(seen), 4)

    def test_plans(self):
        seen = set()
        for office, source in random_offices(183, 40, 40):
            for name in named(office, "plan"):
                plan = office.plan_of(name)
                for one in "abcz":
                    self.assertEqual(office.ask("image", name, one), str(plan.pulled(read_circle(one))))
                for place in named(office, "world"):
                    text, world = source.choice(CIRCLES), office.world_of(place)
                    try:
                        pulled = str(plan.pulled(read_circle(text)))
                    except TooMany:
                        continue
                    behind = office.tried([("run", name, place)], ("alike", place, text, 1, world.many))
                    self.assertEqual(behind, office.ask("alike", place, pulled, 1, world.many))
                    self.assertEqual(office.tried([("run", name, place)], ("text", place)), plan.done(world).text())
                for guard in named(office, "guard"):
                    book = office.guard_of(guard).book
                    try:
                        carried = office.ask("carries", name, guard)
                        broken = broken_behind(plan, office.guard_of(guard))
                    except TooMany:
                        continue
                    self.assertEqual(unkept_behind(plan, book) is None, carried)
                    for at, (p, q) in enumerate(office.guard_of(guard).bans()):
                        told = office.ask("tells", guard, str(plan.pulled(p)), str(plan.pulled(q)))
                        self.assertEqual(at in broken, told)
                    seen.add(carried)
        self.assertEqual(seen, {True, False})

    def test_sketches(self):
        seen = set()
        for office, source in random_offices(184, 60, 50):
            for name in named(office, "sketch"):
                sketch = office.sketch_of(name)
                stands = office.ask("stands", name)
                self.assertEqual(sketch_paper(sketch)[0], "stands" if stands else "fails")
                self.assertTrue(is_sketch_paper(sketch, sketch_paper(sketch)))
                if stands:
                    text, u, v = source.choice(CIRCLES), source.randint(1, sketch.many), source.randint(1, sketch.many)
                    outlook = office.ask("outlook", name, text, u, v)
                    paper = outlook_paper(sketch, read_circle(text), u, v)
                    self.assertEqual(paper[0], outlook)
                    self.assertTrue(is_outlook_paper(sketch, read_circle(text), u, v, paper))
                    more = office.tried([("say", name, "alike", text, u, v)], ("stands", name))
                    less = office.tried([("say", name, "unlike", text, u, v)], ("stands", name))
                    stand = {"surely": (True, False), "never": (False, True), "open": (True, True)}
                    self.assertEqual((more, less), stand[outlook])
                    seen.add(outlook)
                else:
                    seen.add("fails")
        self.assertLessEqual({"surely", "open"}, seen)

    def test_journals(self):
        for office, _ in random_offices(185, 15, 40):
            again = replayed(office.journal())
            self.assertEqual([again, again.journal(), again.history()], [office, office.journal(), office.history()])
            twin = office.twin()
            while twin.history()[0] > 0:
                twin.undo()
                self.assertEqual(replayed(twin.journal()), twin)
            self.assertEqual(twin, Office())
            while twin.history()[1] > 0:
                twin.redo()
            self.assertEqual(twin, office)
