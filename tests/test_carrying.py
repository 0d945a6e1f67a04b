"""Grants, bans and books behind plans."""

import random

from pooledeyes.books import Book
from pooledeyes.carrying import book_ahead, broken_behind, unkept_behind
from pooledeyes.circles import eye, pool
from pooledeyes.circletexts import read_circle
from pooledeyes.closings import closed_world
from pooledeyes.errors import CommonShown, TooMany
from pooledeyes.frames import Frame, count_ties
from pooledeyes.guards import Guard
from pooledeyes.musts import must_tell
from pooledeyes.plans import Plan
from pooledeyes.tables import table_tells
from tests.making import eyes_to, names_to, with_ties
from tests.plainplans import random_plan
from tests.plainworlds import random_circle, random_worlds
from tests.reading import book_of, guard_of, plan_of
from tests.refusing import RefusingTest
from tests.test_books import random_book
from tests.test_plans_refused import DEPTH, EYES, TWICE, deep_beside, pool_beside

TIES = {"what": "ties", "most": 256}
GRANTS = {"what": "grants", "most": 12}
# Behind it a circle with a and zz may have too many eyes, and one with c and zz may be too deep.
GREAT = Plan(("becomes", "a", pool_beside(40)), ("becomes", "c", deep_beside(20, 30)))
TOO_LARGE, TOO_DEEP = TWICE, read_circle("c & zz")
# Behind it the frame of a has 257 ties.
TIED = Plan(("becomes", "a", with_ties(257)))


class UnkeptBehindTest(RefusingTest):
    def unkept(self, plan, book, wanted):
        self.assertEqual(unkept_behind(plan_of(plan), book_of(book)), wanted, (plan, book))

    def test_chosen_books(self):
        self.unkept("", "", None)
        self.unkept("", "a > b, b > c", None)
        self.unkept("a learns b", "", None)
        self.unkept("a learns b", "a > c, c > a", 1)
        self.unkept("a learns c", "a > b, d > a", 1)
        self.unkept("b learns c", "a > b", 0)
        self.unkept("b learns c", "a > b, a > c", None)
        self.unkept("b blurs c", "a > b", None)
        self.unkept("a blurs c", "a > b", 0)
        self.unkept("a blurs c", "a > b, c > b", None)
        self.unkept("a swaps b", "a > b", 0)
        self.unkept("a swaps b", "a > b, b > a", None)
        self.unkept("a swaps b, a swaps b", "a > b", None)
        self.unkept("a becomes c", "d > e, a > b, c > b", None)
        self.unkept("a becomes d", "d > e, a > b, c > b", 1)
        self.assertIsNone(unkept_behind(book=book_of("a > b"), plan=Plan()))

    def test_by_pulling_back(self):
        source = random.Random(111)
        seen = set()
        for _ in range(200):
            plan, book = random_plan(source, 3, 2), random_book(source, 3)
            try:
                pairs = [(plan.pulled(circle), plan.image(name)) for circle, name in book.grants()]
            except TooMany:
                continue
            if any(count_ties(circle) > 100 for circle, _ in pairs):
                continue
            lost = [at for at, (p, x) in enumerate(pairs) if not table_tells(book, p, x)]
            self.assertEqual(unkept_behind(plan, book), lost[0] if lost else None)
            seen.add(unkept_behind(plan, book))
        self.assertLessEqual({None, 0, 1}, seen)

    def test_in_worlds(self):
        source = random.Random(112)
        seen = {True: 0, False: 0}
        for world, _ in random_worlds(113, 150, 6):
            plan, book = random_plan(source, 3, 2), random_book(source, 2)
            try:
                at = unkept_behind(plan, book)
            except TooMany:
                continue
            if at is None:
                self.assertTrue(book.kept_by(plan.done(closed_world(world, book))))
            else:
                # The closed frame of the pulled back circle keeps the book, and behind the plan it does not.
                closed = closed_world(Frame(plan.pulled(book.grants()[at][0])).world(), book)
                self.assertTrue(book.kept_by(closed))
                self.assertFalse(book.only((at,)).kept_by(plan.done(closed)))
            seen[at is None] += 1
        self.assertGreater(min(seen.values()), 20)

    def test_refused(self):
        right = (eye("x"), "y")
        self.refused(TooMany, EYES, unkept_behind, GREAT, Book(right, (TOO_LARGE, "x"), (TOO_DEEP, "x")))
        self.refused(TooMany, DEPTH, unkept_behind, GREAT, Book((TOO_DEEP, "x"), (TOO_LARGE, "x"), right))
        # A grant that is not kept is told only if all circles can be pulled back and laid.
        self.refused(TooMany, DEPTH, unkept_behind, GREAT, Book((eye("x"), "a"), (TOO_DEEP, "x")))
        self.refused(TooMany, TIES, unkept_behind, TIED, Book((eye("x"), "a"), (eye("a"), "x")))
        self.refused(TooMany, TIES, unkept_behind, Plan(), Book((with_ties(257), "x")))
        wide = Plan(*TIED.shares(), ("becomes", "c", deep_beside(20, 30)))
        self.refused(TooMany, DEPTH, unkept_behind, wide, Book((eye("a"), "x"), (TOO_DEEP, "x")))
        self.assertEqual(unkept_behind(TIED, Book((eye("x"), "a"))), 0)
        self.assertEqual(unkept_behind(Plan(), Book((with_ties(256), "x"))), None)


class BrokenBehindTest(RefusingTest):
    def broken(self, plan, book, bans, wanted):
        self.assertEqual(broken_behind(plan_of(plan), guard_of(book, bans)), wanted, (plan, book, bans))

    def test_chosen_guards(self):
        self.broken("", "", "", [])
        self.broken("", "a > b", "a ! b, b ! a, a ! a", [0, 2])
        self.broken("a learns b", "", "a ! b, b ! a, a ! b | c, c ! a, a & c ! b & c", [0, 2, 4])
        self.broken("a swaps b", "a > c", "a ! c, b ! c", [1])
        self.broken("a becomes b, c blurs a", "b > d", "a ! d, c ! d, a ! c", [0, 2])
        self.broken("a becomes b, c blurs a", "b > d, c > d", "a ! d, c ! d, c ! a", [0, 1])
        found = broken_behind(guard=guard_of("", "a ! a"), plan=Plan())
        found.append(3)
        self.broken("", "", "a ! a", [0])

    def test_by_pulling_back_and_in_worlds(self):
        source = random.Random(114)
        seen = set()
        for world, _ in random_worlds(115, 150, 6):
            plan = random_plan(source, 3, 2)
            guard = Guard(random_book(source, 2), *[(random_circle(source, 3), random_circle(source, 3))
                                                    for _ in range(3)])
            try:
                pairs = [(plan.pulled(p), plan.pulled(q)) for p, q in guard.bans()]
                found = broken_behind(plan, guard)
            except TooMany:
                continue
            self.assertEqual(found, [at for at, (p, q) in enumerate(pairs) if table_tells(guard.book, p, q)])
            behind = plan.done(closed_world(world, guard.book))
            for at, (p, q) in enumerate(guard.bans()):
                if at in found:
                    self.assertTrue(behind.tells(p, q))
                else:
                    closed = closed_world(Frame(pairs[at][0]).world(), guard.book)
                    self.assertFalse(plan.done(closed).tells(p, q))
            seen.add(len(found))
        self.assertLessEqual({0, 1, 2}, seen)

    def test_refused(self):
        a, x = eye("a"), eye("x")
        for bans, told in [([(TOO_LARGE, TOO_DEEP)], EYES), ([(TOO_DEEP, TOO_LARGE)], DEPTH), ([(x, TOO_LARGE)], EYES),
                           ([(x, TOO_DEEP), (TOO_LARGE, x)], DEPTH), ([(x, x), (x, x), (x, TOO_DEEP)], DEPTH),
                           ([(x, x), (TOO_LARGE, TOO_DEEP)], EYES)]:
            self.refused(TooMany, told, broken_behind, GREAT, Guard(Book(), *bans))
        self.refused(TooMany, TIES, broken_behind, TIED, Guard(Book(), (x, x), (a, x)))
        wide = Plan(*TIED.shares(), ("becomes", "c", deep_beside(20, 30)))
        self.refused(TooMany, DEPTH, broken_behind, wide, Guard(Book(), (a, x), (x, TOO_DEEP)))
        # The frame of the pulled back q may have any number of ties.
        self.assertEqual(broken_behind(TIED, Guard(Book(), (x, a), (x, x))), [1])
        self.assertEqual(broken_behind(Plan(("becomes", "a", with_ties(256))), Guard(Book(), (a, a), (a, x))), [0])


class BookAheadTest(RefusingTest):
    def ahead(self, plan, book, wanted):
        self.assertEqual(book_ahead(plan_of(plan), book_of(book)), book_of(wanted), (plan, book))

    def test_grant_by_grant(self):
        self.ahead("", "", "")
        self.ahead("", "a > b, b & c > d", "a > b, b & c > d")
        self.ahead("", "c & (a | b) & c > d", "(a | b) & c > d")
        self.ahead("a learns b", "c > a", "c > a, c > b")
        self.ahead("b learns a", "c > b", "c > a, c > b")
        self.ahead("a learns b", "a > c", "a & b > c")
        self.ahead("a learns b", "a > a", "a & b > a, a & b > b")
        self.ahead("a learns b & d, e swaps f", "e > a, f > e", "f > a, f > b, f > d, e > f")
        self.ahead("a learns b, c learns b", "d > a, d > c", "d > a, d > b, d > c")
        self.ahead("", "a > b, c > d, a > b", "a > b, c > d")
        self.ahead("b becomes a", "c > a, c > b, c > d", "c > a, c > d")
        self.ahead("a blurs b", "a > c, c > d", "a | b > c, c > d")
        self.ahead("a blurs b, a learns b", "c > a, a > c", "c > b, b > c")
        self.assertEqual(book_ahead(book=book_of("a > b"), plan=Plan()), book_of("a > b"))

    def test_in_worlds(self):
        source = random.Random(116)
        seen = {True: 0, False: 0}
        for world, _ in random_worlds(117, 600, 5):
            plan, book = random_plan(source, 3, 2), random_book(source, 2)
            try:
                ahead = book_ahead(plan, book)
            except (TooMany, CommonShown):
                continue
            for one in [world, closed_world(world, book), closed_world(world, ahead)]:
                self.assertIs(ahead.kept_by(one), book.kept_by(plan.done(one)))
                seen[ahead.kept_by(one)] += 1
            grants = ahead.grants()
            self.assertTrue(all(grant not in grants[:at] for at, grant in enumerate(grants)))
            self.assertEqual(unkept_behind(plan, book) is None,
                             all(must_tell(book, p, eye(x)) for p, x in grants))
        self.assertGreater(min(seen.values()), 50)

    def test_commons_shown(self):
        for plan, book, at in [("a blurs b", "c > a", 0), ("a blurs b", "a > c, a > b, c > a", 2),
                               ("a becomes b & (c | d)", "a > b, c > a, d > a", 1),
                               ("a becomes b | (c & d), e blurs a", "a > b, c > e", 1)]:
            self.refused(CommonShown, {"at": at}, book_ahead, plan_of(plan), book_of(book))
        great = Book((TOO_LARGE, "x"), (TOO_DEEP, "x"), (eye("x"), "c"))
        self.refused(CommonShown, {"at": 2}, book_ahead, GREAT, great)
        many = Plan(("becomes", "a", pool(*eyes_to(14))), ("becomes", "z", read_circle("a | y")))
        self.refused(CommonShown, {"at": 1}, book_ahead, many, Book((eye("x"), "a"), (eye("x"), "z")))

    def test_too_many(self):
        self.refused(TooMany, EYES, book_ahead, GREAT, Book((eye("x"), "y"), (TOO_LARGE, "x"), (TOO_DEEP, "x")))
        self.refused(TooMany, DEPTH, book_ahead, GREAT, Book((eye("x"), "a"), (TOO_DEEP, "x"), (TOO_LARGE, "x")))
        for many, right in [(11, True), (12, True), (13, False), (20, False)]:
            plan = Plan(("becomes", "zz", pool(*eyes_to(many))))
            book = Book((eye("yy"), "zz"), (eye("yy"), "a"))
            if right:
                self.assertEqual(book_ahead(plan, book), Book(*[(eye("yy"), name) for name in sorted(names_to(many))]))
            else:
                self.refused(TooMany, GRANTS, book_ahead, plan, book)
        plan = Plan(("becomes", "zz", pool(*eyes_to(12))))
        self.refused(TooMany, GRANTS, book_ahead, plan, Book((eye("yy"), "zz"), (eye("yy"), "m")))
        # No frame is laid, so there is no bound for ties.
        self.assertEqual(len(book_ahead(TIED, Book((eye("a"), "x")))), 1)
