"""Plans alike, needless and exchangeable shares, lost eyes, and plans taken back."""

import random

from pooledeyes.circles import eye
from pooledeyes.errors import TooMany
from pooledeyes.partings import all_partings
from pooledeyes.plans import Plan
from pooledeyes.worlds import World
from tests.making import names_to
from tests.plainplans import NAMES, plain_images, random_plan
from tests.plainworlds import random_worlds
from tests.reading import plan_of
from tests.refusing import RefusingTest


def plain_image(shares, name):
    """The text of the image of any eye."""
    return plain_images(shares, 1).get(name, name)


def plain_alike(one, other):
    """The first eye with unlike images, None if there is none."""
    for name in sorted(NAMES):
        if plain_image(one, name) != plain_image(other, name):
            return name
    return None


class AlikeTest(RefusingTest):
    def alike(self, one, other, wanted):
        one, other = plan_of(one), plan_of(other)
        self.assertEqual(one.unlike_eye(other), wanted)
        self.assertEqual(other.unlike_eye(other=one), wanted)
        self.assertIs(one.alike(other), wanted is None)
        self.assertIs(other.alike(other=one), wanted is None)

    def test_chosen_plans(self):
        self.alike("", "", None)
        self.alike("", "a learns a", None)
        self.alike("", "a blurs a & b", None)
        self.alike("", "a blurs b", "a")
        self.alike("", "a blurs a, z becomes z, a swaps b, b swaps a", None)
        self.alike("a learns b", "a learns a & b", None)
        self.alike("a learns b", "a becomes b & a", None)
        self.alike("a learns b", "b learns a", "a")
        self.alike("a learns b, a learns c", "a learns c & b", None)
        self.alike("a swaps b, c learns d", "c learns d, b swaps a", None)
        self.alike("z learns b", "z learns b, c learns d", "c")
        self.alike("z learns y", "", "z")
        self.alike("c swaps d", "a swaps b", "a")
        self.alike("a learns b, b learns a", "b learns a, a learns b", None)
        self.alike("a learns b, b blurs a", "a learns b", None)
        self.alike("a becomes (b & c) | (b & (c | (b & d)))", "a becomes b & (c | (b & d))", None)

    def test_against_images_and_worlds(self):
        source = random.Random(85)
        seen = set()
        worlds = [world for world, _ in random_worlds(86, 12, 6)]
        plans = [random_plan(source, 3, 2) for _ in range(60)] + [Plan(), plan_of("a learns a")]
        for one in plans:
            other = source.choice(plans)
            wanted = plain_alike(one.shares(), other.shares())
            self.assertEqual([one.unlike_eye(other), other.unlike_eye(one)], [wanted, wanted])
            self.assertIs(one.alike(other), wanted is None)
            self.assertIs(one.alike(one), True)
            seen.add(wanted)
            if wanted is None:
                for world in worlds:
                    self.assertEqual(one.done(world), other.done(world))
        self.assertIn(None, seen)
        self.assertGreater(len(seen), 3)

    def test_unlike_plans_differ_in_some_world(self):
        worlds = [World.parted(3, {"a": first, "b": second, "c": third}) for first in all_partings(3)
                  for second in all_partings(3) for third in all_partings(3)]
        for one, other in [("a learns b", "a becomes b"), ("a learns b | c", "a learns b"), ("a swaps b", "a swaps c"),
                           ("a becomes b & c", "a becomes b | c"),
                           ("a learns b, b learns c", "b learns c, a learns b")]:
            self.assertFalse(plan_of(one).alike(plan_of(other)))
            self.assertTrue(any(plan_of(one).done(world) != plan_of(other).done(world) for world in worlds))


class NeedlessTest(RefusingTest):
    def test_chosen_plans(self):
        for text, wanted in [("", []), ("a learns b", []), ("a learns a", [0]), ("a becomes a, b blurs b", [0, 1]),
                             ("a learns b, a learns b", [0, 1]), ("a learns b, a becomes c", [0]),
                             ("a learns b, a learns b & c", [0]), ("a learns b, c learns a, a becomes b", []),
                             ("a swaps b, a swaps b", []), ("a becomes b, a becomes b, a learns b", [0, 1, 2]),
                             ("a learns b | a, b learns c, c becomes c & (c | d)", [0, 2])]:
            self.assertEqual(plan_of(text).needless(), wanted, text)

    def test_share_by_share(self):
        source = random.Random(87)
        seen = set()
        for _ in range(120):
            plan = random_plan(source, 5, 2)
            try:
                wanted = [at for at in range(len(plan))
                          if plain_alike(plan.without(at).shares(), plan.shares()) is None]
            except TooMany:
                continue
            self.assertEqual(plan.needless(), wanted)
            seen.add(len(wanted))
        self.assertGreater(len(seen), 3)

    def test_12_shares(self):
        self.assertEqual(Plan(*[("learns", "a", eye("b"))] * 12).needless(), list(range(12)))
        self.assertEqual(Plan(*[("swaps", "a", "b")] * 12).needless(), [])


class ExchangeableTest(RefusingTest):
    def exchangeable(self, text, wanted):
        plan = plan_of(text)
        self.assertEqual([plan.exchangeable(at) for at in range(len(plan) - 1)], wanted, text)

    def test_chosen_plans(self):
        self.exchangeable("a learns b, c learns d", [True])
        self.exchangeable("a learns b, b learns c", [False])
        self.exchangeable("b learns c, a learns b", [False])
        self.exchangeable("a learns b, a learns c", [True])
        self.exchangeable("a learns b, a blurs c", [False])
        self.exchangeable("a becomes b, a becomes c", [False])
        self.exchangeable("a swaps b, a swaps b", [True])
        self.exchangeable("a swaps b, b swaps c", [False])
        self.exchangeable("a swaps b, c swaps d, a learns c", [True, False])
        self.exchangeable("a learns b, b learns c, a becomes d", [True, True])
        self.exchangeable("a learns b, b learns a", [True])
        self.assertIs(plan_of("a learns b, b learns a").exchangeable(at=0), True)

    def test_against_images(self):
        source = random.Random(88)
        seen = set()
        for _ in range(100):
            plan = random_plan(source, 5, 2)
            shares = plan.shares()
            for at in range(len(plan) - 1):
                turned = shares[:at] + [shares[at + 1], shares[at]] + shares[at + 2:]
                try:
                    wanted = plain_alike(Plan(*turned).shares(), shares) is None
                except TooMany:
                    continue
                self.assertIs(plan.exchangeable(at), wanted)
                seen.add((at, wanted))
        self.assertEqual(len(seen), 8)


class TakenBackTest(RefusingTest):
    def test_lost_eyes(self):
        for text, wanted in [("", []), ("a learns a", []), ("a learns b", ["a"]), ("a becomes b", ["a"]),
                             ("a swaps b", []), ("a blurs b, c blurs b", ["a", "c"]), ("a swaps b, a learns b", ["b"]),
                             ("a becomes b, b becomes a", ["a"]), ("a becomes b, b becomes c", ["a"]),
                             ("a becomes b | c, b becomes a, c becomes a", ["a", "b", "c"]),
                             ("a becomes b & (b | c)", ["a"]), ("a learns a | b, c blurs c & b", [])]:
            plan = plan_of(text)
            self.assertEqual(plan.lost(), wanted, text)
            self.assertEqual(plan.taken_back() is None, wanted != [], text)

    def test_right_plans(self):
        source = random.Random(89)
        worlds = [world for world, _ in random_worlds(90, 10, 6)]
        seen = set()
        plans = [random_plan(source, 4, 2, words) for _ in range(60) for words in [("swaps",), ("learns", "swaps")]]
        plans += [plan_of("a swaps b, c learns c | a, b swaps c, a becomes a & (a | d), d swaps a"), Plan(),
                  plan_of("a swaps b, b swaps c"), plan_of("a learns a")]
        for plan in plans:
            images = [plain_image(plan.shares(), name) for name in NAMES]
            lost = [name for name in plan.eyes() if name not in images]
            self.assertEqual(plan.lost(), lost)
            back = plan.taken_back()
            self.assertEqual(back is None, lost != [])
            seen.add(back is None)
            if back is not None:
                self.assertIsInstance(back, Plan)
                self.assertEqual(sorted(images), sorted(NAMES))
                self.assertTrue(plan.followed_by(back).alike(Plan()))
                for world in worlds:
                    self.assertEqual(back.done(plan.done(world)), world)
        self.assertEqual(seen, {True, False})

    def test_12_swaps(self):
        names = names_to(24)
        world = World(24, [(name, at + 1, (at + 5) % 24 + 1) for at, name in enumerate(names)])
        for pairs in [zip(names[:12], names[12:]), zip(names[:12], names[1:13]), zip(names[:12], names[5:17])]:
            plan = Plan(*[("swaps", one, other) for one, other in pairs])
            back = plan.taken_back()
            self.assertLessEqual(len(back), 12)
            self.assertNotEqual(plan.done(world), world)
            self.assertEqual(back.done(plan.done(world)), world)
            self.assertEqual(plan.lost(), [])
