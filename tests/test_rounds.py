"""Rounds: plans that stand still, pooled and blurred ones, and rounds of worlds."""

import random

from pooledeyes.books import Book
from pooledeyes.circles import eye, pool
from pooledeyes.descents import always_alike
from pooledeyes.errors import InvalidNumber, NotPooled, TooMany
from pooledeyes.keys import key_of
from pooledeyes.musts import must_tell
from pooledeyes.plans import Plan
from pooledeyes.rounds import is_blurred, is_pooled, pooled_book, stands_still, world_rounds
from pooledeyes.worlds import World
from tests.anyvalues import but_numbers
from tests.making import eyes_to, names_to
from tests.plainplans import plain_done, random_plan
from tests.plainworlds import random_worlds
from tests.reading import book_of, plan_of, shares_of
from tests.refusing import RefusingTest
from tests.test_plans_refused import DEPTH, DOUBLE, EYES, LADDER

ROUNDS = {"what": "rounds", "most": 100}
GRANTS = {"what": "grants", "most": 12}


def random_pooled(source, most=6, word="learns", sign=" & "):
    """A pooled plan, or a blurred one, of at most so many shares over the eyes a to e."""
    shares = []
    for _ in range(source.randint(0, most)):
        circle = sign.join(source.sample("abcde", source.randint(1, 3)))
        shares.append(f"{source.choice('abcde')} {word} {circle}")
    return plan_of(", ".join(shares))


class KindTest(RefusingTest):
    def test_pooled_and_blurred(self):
        for text, pooled, blurred in [("", True, True), ("a learns b", True, False), ("a blurs b", False, True),
                                      ("a learns a", True, False), ("a learns b & c", True, False),
                                      ("a learns b | c", False, False), ("a blurs b | c", False, True),
                                      ("a blurs b & c", False, False), ("a learns b & (c | d)", False, False),
                                      ("a blurs b | (c & d)", False, False), ("a becomes b", False, False),
                                      ("a becomes b & c", False, False), ("a swaps b", False, False),
                                      ("a learns b, b learns c & d & e", True, False),
                                      ("a learns b, b blurs c", False, False), ("a learns b, a swaps b", False, False),
                                      ("a blurs b, b blurs a | c | d", False, True)]:
            self.assertIs(is_pooled(plan_of(text)), pooled, text)
            self.assertIs(is_blurred(plan=plan_of(text)), blurred, text)


class StandsStillTest(RefusingTest):
    def test_chosen_plans(self):
        for text, rounds in [("", 0), ("a learns a", 0), ("a learns b", 1), ("a becomes b", 1), ("a swaps b", None),
                             ("a learns b, b learns c, c learns d", 3), ("c learns d, b learns c, a learns b", 1),
                             ("a learns b, b learns c, c learns d, d learns e", 4), ("a becomes b, b becomes c", 2),
                             ("a swaps b, b swaps a", 0), ("a becomes ((a | b) & c) | d", 2)]:
            self.assertEqual(stands_still(plan_of(text)), rounds, text)
            self.assertEqual(stands_still(plan_of(text), most=7), rounds, text)

    def test_most(self):
        plan = plan_of("a learns b, b learns c, c learns d, d learns e, e learns f, f learns g, g learns h")
        self.assertEqual([stands_still(plan, most=most) for most in range(8)], [None] * 7 + [7])
        self.assertIsNone(stands_still(plan))
        plan = plan_of("a learns b, b learns c, c learns d")
        self.assertEqual([stands_still(plan=plan, most=most) for most in range(8)], [None] * 3 + [3] * 5)
        self.assertEqual([stands_still(Plan(), most=most) for most in range(8)], [0] * 8)

    def test_against_images(self):
        source = random.Random(101)
        seen = set()
        for _ in range(150):
            plan = random_plan(source, 4, 2)
            try:
                images = [plan.images(rounds=rounds) for rounds in range(9)]
            except TooMany:
                continue
            still = [rounds for rounds in range(8) if images[rounds] == images[rounds + 1]]
            for most in range(8):
                wanted = still[0] if still and still[0] <= most else None
                self.assertEqual(stands_still(plan, most=most), wanted)
                seen.add(wanted)
            self.assertEqual(stands_still(plan), stands_still(plan, most=4))
        self.assertLessEqual({None, 0, 1, 2}, seen)

    def test_pooled_and_blurred_plans_stand_still(self):
        source = random.Random(102)
        for _ in range(60):
            for plan in [random_pooled(source), random_pooled(source, 6, "blurs", " | ")]:
                self.assertLessEqual(stands_still(plan), max(len(plan.eyes()) - 1, 0))

    def test_wrong_numbers(self):
        for value in but_numbers(0, 7):
            for plan in [Plan(), LADDER, DOUBLE]:
                self.refused(InvalidNumber, {"value": value}, stands_still, plan, most=value)

    def test_images_that_are_too_great(self):
        # Images of 5 rounds are right, of 6 they are too deep.
        self.assertIsNone(stands_still(LADDER, most=4))
        for most in [5, 6, 7]:
            self.refused(TooMany, DEPTH, stands_still, LADDER, most=most)
        # Images of 4 rounds are right, of 5 they are too large.
        self.assertIsNone(stands_still(DOUBLE, most=3))
        for most in [4, 5, 7]:
            self.refused(TooMany, EYES, stands_still, DOUBLE, most=most)
        self.refused(TooMany, EYES, stands_still, DOUBLE)


class PooledBookTest(RefusingTest):
    def test_grant_by_grant(self):
        for text, book in [("", ""), ("a learns b", "a > b"), ("a learns b & c", "a > b, a > c"),
                           ("a learns c & b", "a > c, a > b"), ("a learns a", ""),
                           ("a learns c & a & b", "a > c, a > b"),
                           ("a learns b, a learns b & c, b learns a, a learns c", "a > b, a > c, b > a"),
                           ("b learns c & d, a learns b, b learns c & e", "b > c, b > d, a > b, b > e")]:
            self.assertEqual(pooled_book(plan_of(text)), book_of(book), text)
        self.assertEqual(pooled_book(plan=plan_of("a learns b")), book_of("a > b"))

    def test_refused(self):
        for text in ["a blurs b", "a becomes b", "a swaps b", "a learns b | c", "a learns b, b learns c & (d | e)"]:
            self.refused(NotPooled, {}, pooled_book, plan_of(text))
        great = Plan(("learns", "zz", pool(*eyes_to(13))), ("blurs", "a", eye("b")))
        self.refused(NotPooled, {}, pooled_book, great)

    def test_12_and_13_grants(self):
        twelve = Plan(("learns", "zz", pool(*eyes_to(12))), ("learns", "zz", eye("a")), ("learns", "a", eye("a")))
        self.assertEqual(pooled_book(twelve), Book(*[(eye("zz"), name) for name in names_to(12)]))
        for further in ["zz learns m", "a learns b", "zz learns a & m & b"]:
            self.refused(TooMany, GRANTS, pooled_book, Plan(*twelve.shares(), *shares_of(further)))
        self.refused(TooMany, GRANTS, pooled_book, Plan(("learns", "zz", pool(*eyes_to(13)))))
        self.assertEqual(len(pooled_book(Plan(("learns", "a", pool(*eyes_to(13)))))), 12)

    def test_what_stands_still(self):
        source = random.Random(103)
        told = 0
        for _ in range(80):
            plan = random_pooled(source)
            try:
                book = pooled_book(plan)
            except TooMany:
                continue
            rounds = stands_still(plan)
            for name in plan.eyes():
                known = [eye(other) for other in plan.eyes() if must_tell(book, eye(name), eye(other))]
                whole = pool(eye(name), *known)
                self.assertTrue(always_alike(plan.image(name, rounds=rounds), whole))
                self.assertEqual(plan.image(name, rounds=rounds), key_of(whole))
                told += len(known) > 1
        self.assertGreater(told, 50)

    def test_pooled_plans_as_books(self):
        source = random.Random(104)
        for world, _ in random_worlds(105, 60, 6):
            plan = random_pooled(source, 5)
            try:
                book = pooled_book(plan)
            except TooMany:
                continue
            still = plan.done(world, rounds=stands_still(plan))
            # Behind it all that the book grants is seen, and a world that keeps the book stays as it is.
            self.assertTrue(book.kept_by(still))
            self.assertEqual(plan.done(still), still)
            self.assertEqual(book.kept_by(world), plan.done(world) == world)


class WorldRoundsTest(RefusingTest):
    def rounds(self, text, world, wanted):
        self.assertEqual(world_rounds(plan_of(text), World.read(world)), wanted, text)

    def test_chosen_plans(self):
        world = "cases 4\na 1 1 3 4\nb 1 2 2 4\nc 1 2 3 3\n"
        self.rounds("", world, (0, 1))
        self.rounds("a swaps b", world, (0, 2))
        self.rounds("a swaps z, b swaps z", world, (0, 3))
        self.rounds("y swaps z", world, (0, 1))
        self.rounds("a learns b", world, (1, 1))
        self.rounds("a blurs b, b blurs c", world, (2, 1))
        self.rounds("a becomes b, b becomes c, c becomes d", world, (3, 1))
        self.rounds("a becomes b, b swaps c", world, (1, 2))
        self.rounds("a swaps b, a blurs b", world, (2, 1))
        self.rounds("a swaps b", "cases 1\n", (0, 1))
        found = world_rounds(world=World(2), plan=Plan())
        self.assertEqual([found, found.__class__], [(0, 1), tuple])

    def test_by_definition(self):
        source = random.Random(106)
        seen = set()
        for world, _ in random_worlds(107, 150, 6):
            plan = random_plan(source, 5, 2)
            worlds = [world]
            for _ in range(30):
                worlds.append(plain_done(plan.shares(), worlds[-1]))
            pairs = [(b, p) for b in range(15) for p in range(1, 15) if worlds[b] == worlds[b + p]]
            self.assertEqual(world_rounds(plan, world), pairs[0])
            seen.add(pairs[0])
        self.assertLessEqual({(0, 1), (0, 2), (1, 1), (2, 1)}, seen)

    def ring(self, letter, many):
        """The shares of a plan that goes on by one eye in a ring of so many eyes, and its world of two cases."""
        names = [letter + name for name in names_to(many)]
        return names, [("swaps", one, other) for one, other in zip(names, names[1:])]

    def test_rounds_that_come_back_after_100_and_more(self):
        es, first = self.ring("e", 7)
        fs, second = self.ring("f", 4)
        gs, third = self.ring("g", 3)
        plan = Plan(("learns", "z", eye(es[0]) | eye(fs[0])), *first, *second, *third)
        self.assertEqual(len(plan), 12)
        found = {}
        for at in range(28):
            # The eye z comes to know something in just the round with the index at, of 28 that are unlike.
            ties = [(name, 1, 2) for names, gap in [(es, at % 7), (fs, at % 4), (gs, 0)]
                    for index, name in enumerate(names) if index != gap]
            world = World(2, ties + [("z", 1, 2)])
            try:
                found[at] = world_rounds(plan, world)
            except TooMany:
                self.refused(TooMany, ROUNDS, world_rounds, plan, world)
        self.assertEqual(found, {at: (at + 1, 84) for at in range(16)})

    def test_a_period_above_100(self):
        rings = [self.ring(letter, many) for letter, many in [("e", 7), ("f", 5), ("g", 3)]]
        plan = Plan(*[share for _, shares in rings for share in shares])
        one_of_each = World(2, [(names[0], 1, 2) for names, _ in rings])
        self.refused(TooMany, ROUNDS, world_rounds, plan, one_of_each)
        self.assertEqual(world_rounds(plan, World(2, [(rings[0][0][0], 1, 2), (rings[1][0][0], 1, 2)])), (0, 35))
        self.assertEqual(world_rounds(plan, World(2)), (0, 1))
