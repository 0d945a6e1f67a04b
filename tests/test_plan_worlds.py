"""Plans done in worlds, and plans put together."""

import random

from pooledeyes.circles import eye
from pooledeyes.circletexts import read_circle
from pooledeyes.errors import TooMany
from pooledeyes.plans import Plan
from pooledeyes.worlds import World
from tests.making import eyes_to
from tests.plainplans import NAMES, plain_done, random_plan, random_share
from tests.plainworlds import random_circle, random_worlds
from tests.reading import plan_of
from tests.refusing import RefusingTest
from tests.test_plans_refused import DOUBLE, LADDER

WORLD = World(5, [("a", 1, 2), ("b", 2, 3), ("a", 3, 4), ("c", 1, 2), ("c", 4, 5)])
WORDS = ("learns", "blurs", "becomes", "swaps")


class DoneTest(RefusingTest):
    def done(self, text, wanted, rounds=1):
        self.assertEqual(plan_of(text).done(WORLD, rounds=rounds).text(), "cases 5\n" + wanted, (text, rounds))

    def test_chosen_plans(self):
        a, b, c = "a 1 1 3 3 5\n", "b 1 2 2 4 5\n", "c 1 1 3 4 4\n"
        self.done("", a + b + c)
        self.done("a learns b", b + c)
        self.done("a learns c", "a 1 1 3 4 5\n" + b + c)
        self.done("a blurs b", "a 1 1 1 1 5\n" + b + c)
        self.done("a becomes b", "a 1 2 2 4 5\n" + b + c)
        self.done("a becomes b | c", "a 1 1 1 4 4\n" + b + c)
        self.done("a swaps b", "a 1 2 2 4 5\nb 1 1 3 3 5\n" + c)
        self.done("a swaps z", b + c + "z 1 1 3 3 5\n")
        self.done("z becomes a | b | c", a + b + c + "z 1 1 1 1 1\n")
        self.done("z blurs a", a + b + c + "z 1 1 3 3 5\n")
        self.done("z learns a", a + b + c)
        self.done("a becomes z", b + c)
        # Each share is done behind the one ahead.
        self.done("a becomes b, b becomes a", "a 1 2 2 4 5\nb 1 2 2 4 5\n" + c)
        self.done("b becomes c, a blurs b", "a 1 1 3 3 3\nb 1 1 3 4 4\n" + c)
        self.done("a blurs b, b becomes c", "a 1 1 1 1 5\nb 1 1 3 4 4\n" + c)

    def test_rounds(self):
        a, b, c = "a 1 1 3 3 5\n", "b 1 2 2 4 5\n", "c 1 1 3 4 4\n"
        self.done("a swaps b", a + b + c, 0)
        self.done("a swaps b", a + b + c, 8)
        self.done("a swaps b", "a 1 2 2 4 5\nb 1 1 3 3 5\n" + c, 7)
        self.done("a blurs b, b blurs c", "a 1 1 1 1 5\nb 1 1 1 4 4\n" + c, 1)
        self.done("a blurs b, b blurs c", "a 1 1 1 1 1\nb 1 1 1 4 4\n" + c, 2)
        self.done("a swaps b, b swaps c", "a 1 1 3 4 4\nb 1 1 3 3 5\nc 1 2 2 4 5\n", 2)

    def test_the_world_stays(self):
        text = WORLD.text()
        plan = plan_of("a learns b, c swaps a, z becomes b")
        behind = plan.done(WORLD)
        self.assertEqual(WORLD.text(), text)
        self.assertEqual(plan.done(world=WORLD), behind)
        self.assertIsInstance(behind, World)
        self.assertEqual(plan.done(WORLD, rounds=1), behind)

    def test_share_after_share(self):
        source = random.Random(75)
        for world, _ in random_worlds(76, 150, 8):
            plan, rounds = random_plan(source, 5), source.choice([0, 1, 1, 2, 8])
            self.assertEqual(plan.done(world, rounds=rounds), plain_done(plan.shares(), world, rounds))

    def test_greater_than_images(self):
        # Doing a plan needs no images, so it may be done in more rounds than there are images for.
        world = World(40, [(name, case, case + 1) for at, name in enumerate("abcde") for case in range(at + 1, 39, 3)])
        for plan in [LADDER, DOUBLE]:
            self.assertEqual(plan.done(world, rounds=8), plain_done(plan.shares(), world, 8))
            for rounds in range(9):
                self.assertEqual(plan.done(plan.done(world, rounds=rounds), rounds=8 - rounds),
                                 plan.done(world, rounds=8))

    def test_2400_cases(self):
        world = World(2400, [("a", case, case + 1) for case in range(1, 2400, 2)])
        plan = Plan(("blurs", "b", eye("a")), ("swaps", "a", "c"), ("learns", "c", eye("b")))
        self.assertEqual(plan.done(world).eyes(), ["b", "c"])
        self.assertEqual(plan.done(world).many, 2400)


class PulledTest(RefusingTest):
    def test_alike_behind_and_ahead(self):
        source = random.Random(77)
        asked = 0
        for world, _ in random_worlds(78, 200, 7):
            plan, rounds, circle = random_plan(source), source.choice([0, 1, 1, 2, 3]), random_circle(source, 4)
            try:
                pulled = plan.pulled(circle, rounds=rounds)
            except TooMany:
                continue
            behind = plan.done(world, rounds=rounds)
            self.assertEqual(behind.parting(circle), world.parting(pulled))
            for name in NAMES:
                self.assertEqual(behind.parting(eye(name)), world.parting(plan.image(name, rounds=rounds)))
            asked += 1
        self.assertGreater(asked, 150)

    def test_8_rounds(self):
        source = random.Random(79)
        asked = 0
        for world, _ in random_worlds(80, 60, 7):
            plan = random_plan(source, 3, 2)
            try:
                images = plan.images(rounds=8)
            except TooMany:
                continue
            behind = plan.done(world, rounds=8)
            for name, image in images.items():
                self.assertEqual(behind.parting(eye(name)), world.parting(image))
            asked += 1
        self.assertGreater(asked, 40)


class TogetherTest(RefusingTest):
    def test_one_behind_another(self):
        source = random.Random(81)
        for world, _ in random_worlds(82, 60, 6):
            shares = [random_share(source, 2, WORDS) for _ in range(6)]
            one, two, three = Plan(*shares[:2]), Plan(*shares[2:4]), Plan(*shares[4:])
            try:
                whole = Plan(*shares)
            except TooMany:
                continue
            self.assertEqual(one.followed_by(two).followed_by(three), whole)
            self.assertEqual(one.followed_by(two.followed_by(three)), whole)
            self.assertEqual(three.done(two.done(one.done(world))), whole.done(world))
            self.assertEqual(one.followed_by(two).done(world), two.done(one.done(world)))
            for name in NAMES:
                # The image behind both is that under the second one, pulled back by the first one.
                self.assertEqual(one.followed_by(two).image(name), one.pulled(two.image(name)))

    def test_rounds_are_the_plan_followed_by_itself(self):
        source = random.Random(83)
        asked = 0
        for world, _ in random_worlds(84, 80, 6):
            plan = random_plan(source, 3, 2)
            try:
                again = plan.followed_by(plan).followed_by(plan)
            except TooMany:
                continue
            self.assertEqual(again.done(world), plan.done(world, rounds=3))
            self.assertEqual(again.images(), plan.images(rounds=3))
            self.assertEqual(plan.followed_by(plan).images(), plan.images(rounds=2))
            self.assertEqual(again.images(rounds=0), plan.images(rounds=0))
            asked += 1
        self.assertGreater(asked, 50)

    def test_a_ring_of_eyes(self):
        ring = [("swaps", one.name, other.name) for one, other in zip(eyes_to(12), eyes_to(13)[1:])]
        plan = Plan(*ring)
        self.assertEqual(plan.image("m"), eye("a"))
        self.assertEqual([plan.image(name).name for name in "abc"], ["b", "c", "d"])
        self.assertEqual(plan.pulled(read_circle("(a & b) | m")), read_circle("a | (b & c)"))
