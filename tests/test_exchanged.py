"""Two eyes exchanged everywhere lead to the same answers with these eyes exchanged; and one question, several ways."""

import random

from pooledeyes.books import Book
from pooledeyes.carrying import book_ahead, broken_behind, unkept_behind
from pooledeyes.circles import eye
from pooledeyes.closings import closed_world, closing_log, is_log
from pooledeyes.descents import always_alike
from pooledeyes.errors import CommonShown, TooMany
from pooledeyes.frames import Frame, count_ties
from pooledeyes.guards import Guard
from pooledeyes.lots import least_lots
from pooledeyes.musts import closed_frame, lean, must_tell
from pooledeyes.papers import is_paper, paper_for
from pooledeyes.plans import Plan
from pooledeyes.puts import exchanged
from pooledeyes.reasons import idle_sayings, least_reasons
from pooledeyes.rounds import stands_still, world_rounds
from pooledeyes.sketches import Sketch
from pooledeyes.tables import derivation_of, is_derivation, table_tells
from tests.plainplans import NAMES, random_plan
from tests.plainsketches import random_sketch
from tests.plainworlds import random_circle, random_worlds
from tests.refusing import RefusingTest
from tests.test_books import random_book
from tests.test_outlooks import outlook_of

OTHER = {"a": "b", "b": "a"}


def turned(circle):
    """A circle with the eyes a and b exchanged."""
    return exchanged(circle, "a", "b")


def turned_plan(plan):
    """A plan with the eyes a and b exchanged."""
    return Plan(*[(word, OTHER.get(x, x), OTHER.get(last, last) if word == "swaps" else turned(last))
                  for word, x, last in plan.shares()])


def turned_sketch(sketch):
    """A sketch with the eyes a and b exchanged."""
    return Sketch(sketch.many, *[(word, turned(circle), u, v) for word, circle, u, v in sketch.sayings()],
                  under=sketch.book.exchanged("a", "b"))


class ExchangedTest(RefusingTest):
    def test_worlds_and_books(self):
        source = random.Random(151)
        for world, _ in random_worlds(152, 100, 6):
            other, circle, book = world.exchanged("a", "b"), random_circle(source, 4), random_book(source, 3)
            back = book.exchanged("a", "b")
            self.assertEqual(other.parting(turned(circle)), world.parting(circle))
            self.assertEqual(back.first_unkept(other), book.first_unkept(world))
            self.assertEqual(closing_log(other, back), closing_log(world, book))
            self.assertTrue(is_log(other, back, closing_log(world, book)))
            self.assertEqual(closed_world(other, back), closed_world(world, book).exchanged("a", "b"))

    def test_questions_under_books(self):
        source = random.Random(153)
        seen = set()
        for _ in range(60):
            book, t, s = random_book(source, 3), random_circle(source, 4), random_circle(source, 3)
            back = book.exchanged("a", "b")
            self.assertEqual(Frame(turned(t)).world(), Frame(t).world().exchanged("a", "b"))
            self.assertEqual(closed_frame(back, turned(t)), closed_frame(book, t).exchanged("a", "b"))
            self.assertIs(must_tell(back, turned(t), turned(s)), must_tell(book, t, s))
            self.assertEqual(least_lots(back, turned(t), turned(s)), least_lots(book, t, s))
            self.assertEqual(lean(back), lean(book).exchanged("a", "b"))
            self.assertTrue(is_paper(back, turned(t), turned(s), paper_for(book, t, s)) or not must_tell(book, t, s))
            guard, other = Guard(book, (t, s), (s, t)), Guard(back, (turned(t), turned(s)), (turned(s), turned(t)))
            self.assertEqual([other.first_broken(), other.unsafe_lots(), other.safe_lots()],
                             [guard.first_broken(), guard.unsafe_lots(), guard.safe_lots()])
            if guard.is_safe():
                self.assertEqual(other.one_world(), guard.one_world().exchanged("a", "b"))
            self.assertEqual(other.gains(turned(s), "a", [(turned(t), eye("a"))]), guard.gains(s, "b", [(t, eye("b"))]))
            self.assertIs(other.may_add(turned(s), "b"), guard.may_add(s, "a"))
            seen.add(guard.first_broken())
        self.assertEqual(seen, {None, 0, 1})

    def test_plans(self):
        source = random.Random(154)
        asked = 0
        for world, _ in random_worlds(155, 100, 6):
            plan, book = random_plan(source, 4, 2), random_book(source, 2)
            try:
                other = turned_plan(plan)
                needless = plan.needless()
                still = stands_still(plan, most=2)
            except TooMany:
                continue
            self.assertEqual(other.done(world.exchanged("a", "b")), plan.done(world).exchanged("a", "b"))
            for name in NAMES:
                self.assertTrue(always_alike(other.image(OTHER.get(name, name)), turned(plan.image(name))))
                self.assertEqual(other.image(OTHER.get(name, name)), Plan().pulled(turned(plan.image(name))))
            self.assertEqual(other.needless(), needless)
            self.assertEqual(other.lost(), sorted(OTHER.get(name, name) for name in plan.lost()))
            self.assertEqual(stands_still(other, most=2), still)
            self.assertEqual(world_rounds(other, world.exchanged("a", "b")), world_rounds(plan, world))
            self.assertEqual(unkept_behind(other, book.exchanged("a", "b")), unkept_behind(plan, book))
            asked += 1
        self.assertGreater(asked, 60)

    def test_sketches(self):
        source = random.Random(156)
        seen = set()
        for world, _ in random_worlds(157, 100, 5):
            sketch = random_sketch(source, 3, 4)
            other = turned_sketch(sketch)
            circle, u, v = random_circle(source, 2), source.randint(1, sketch.many), source.randint(1, sketch.many)
            self.assertEqual(other.bare(), sketch.bare().exchanged("a", "b"))
            self.assertEqual(other.filling(), sketch.filling().exchanged("a", "b"))
            self.assertEqual(other.first_broken(), sketch.first_broken())
            self.assertIs(other.kept_by(world.exchanged("a", "b")), sketch.kept_by(world))
            self.assertEqual(outlook_of(other, turned(circle), u, v), outlook_of(sketch, circle, u, v))
            self.assertEqual(least_reasons(other, turned(circle), u, v), least_reasons(sketch, circle, u, v))
            if sketch.stands():
                self.assertEqual(idle_sayings(other), idle_sayings(sketch))
            seen.add(outlook_of(sketch, circle, u, v))
        self.assertLessEqual({None, "surely", "open"}, seen)


class WaysUnderBooksTest(RefusingTest):
    def test_several_ways(self):
        source = random.Random(158)
        counts = {True: 0, False: 0}
        for _ in range(150):
            book, t, s = random_book(source, 4), random_circle(source, 4), random_circle(source, 3)
            if count_ties(t) + count_ties(s) > 256:
                continue
            wanted = table_tells(book, t, s)
            counts[wanted] += 1
            sketch = Sketch(2, ("alike", t, 1, 2), under=book)
            derivation = derivation_of(book, t, s)
            ways = [must_tell(book, t, s), sketch.outlook(s, 1, 2) == "surely", paper_for(book, t, s)[0] == "told",
                    derivation is not None, least_lots(book, t, s) != [], not Guard(book, (t, s)).is_safe(),
                    not sketch.with_saying("unlike", s, 1, 2).stands(),
                    broken_behind(Plan(), Guard(book, (t, s))) == [0],
                    least_reasons(sketch, s, 1, 2) != [], is_derivation(book, t, s, derivation)]
            self.assertEqual(ways, [wanted] * len(ways), (book.text(), str(t), str(s)))
        self.assertGreater(min(counts.values()), 30)

    def test_plans_then_books(self):
        source = random.Random(159)
        seen = {True: 0, False: 0}
        for world, _ in random_worlds(160, 200, 5):
            plan, book = random_plan(source, 3, 2), random_book(source, 2)
            t, s = random_circle(source, 2), random_circle(source, 2)
            try:
                ahead = book_ahead(plan, book)
                pulled = plan.pulled(t), plan.pulled(s)
            except (TooMany, CommonShown):
                continue
            # What must be told under the book must be told, pulled back, under the book ahead.
            if must_tell(book, t, s) and count_ties(pulled[0]) <= 256:
                self.assertTrue(must_tell(ahead, *pulled))
            closed = closed_world(world, ahead)
            self.assertTrue(book.kept_by(plan.done(closed)))
            self.assertEqual(plan.done(world).tells(t, s), world.tells(*pulled))
            if unkept_behind(plan, book) is None:
                self.assertTrue(book.kept_by(plan.done(closed_world(world, book))))
            seen[unkept_behind(plan, book) is None] += 1
            self.assertEqual(Book(*ahead.grants()), ahead)
        self.assertGreater(min(seen.values()), 20)
