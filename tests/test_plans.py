"""Plans: what they tell, and images."""

import random

from pooledeyes.circles import Circle, common, eye, pool
from pooledeyes.circletexts import read_circle
from pooledeyes.descents import tells
from pooledeyes.errors import TooMany
from pooledeyes.keys import is_key, key_of
from pooledeyes.plans import Plan, WORDS
from tests.plain import PlainTooMany
from tests.plainplans import NAMES, plain_images, random_plan
from tests.plainworlds import random_circle
from tests.reading import plan_of, shares_of
from tests.refusing import RefusingTest

LADDER = plan_of("a learns b | (c & (a | d))")


class PlanTest(RefusingTest):
    def test_words_and_limit(self):
        self.assertEqual(WORDS, ("learns", "blurs", "becomes", "swaps"))
        self.assertIsInstance(WORDS, tuple)
        self.assertEqual([Plan.LIMIT, Plan().LIMIT], [12, 12])

    def test_attributes(self):
        shares = shares_of("b learns a | c, a swaps long, a becomes a, d blurs c & a")
        plan = Plan(*shares)
        self.assertEqual([plan.shares(), plan.eyes(), len(plan), repr(plan), bool(plan)],
                         [shares, ["a", "b", "c", "d", "long"], 4, "Plan(4 shares)", True])
        self.assertEqual([Plan().shares(), Plan().eyes(), len(Plan()), repr(Plan()), bool(Plan())],
                         [[], [], 0, "Plan(0 shares)", True])
        self.assertEqual(repr(plan_of("a swaps b")), "Plan(1 shares)")
        self.assertEqual(Plan(*shares * 3).shares(), shares * 3)

    def test_new_lists(self):
        plan = plan_of("a learns b, c swaps a")
        plan.shares().clear()
        plan.eyes().append("x")
        plan.images()["a"] = eye("z")
        plan.images(rounds=2).clear()
        plan.needless().append(1)
        plan.lost().append("x")
        self.assertEqual([plan.shares(), plan.eyes(), plan.needless(), plan.lost()],
                         [shares_of("a learns b, c swaps a"), ["a", "b", "c"], [], ["a"]])
        self.assertEqual(plan.image("c"), read_circle("a & b"))
        self.assertEqual(plan.images()["a"], eye("c"))

    def test_equal_plans(self):
        plan = plan_of("a learns b & c, c swaps a")
        self.assertEqual(plan, plan_of("a learns b & c, c swaps a"))
        self.assertEqual(Plan(), Plan())
        for text in ["c swaps a, a learns b & c", "a learns c & b, c swaps a", "a learns b & c, a swaps c",
                     "a learns b & c", "a blurs b & c, c swaps a", "a learns b & c, c swaps a, c swaps a", ""]:
            self.assertNotEqual(plan, plan_of(text))
        for other in [None, "a", 0, (), [], plan.shares(), tuple(plan.shares())]:
            self.assertNotEqual(Plan(), other)
            self.assertNotEqual(plan, other)

    def test_without_and_followed_by(self):
        plan = plan_of("a learns b, c swaps a, b becomes d")
        self.assertEqual([plan.without(at) for at in [0, 1, 2]],
                         [plan_of("c swaps a, b becomes d"), plan_of("a learns b, b becomes d"),
                          plan_of("a learns b, c swaps a")])
        self.assertEqual(plan.without(at=2).eyes(), ["a", "b", "c"])
        self.assertEqual(plan.followed_by(plan_of("b blurs a")),
                         plan_of("a learns b, c swaps a, b becomes d, b blurs a"))
        self.assertEqual([plan.followed_by(Plan()), Plan().followed_by(other=plan)], [plan, plan])
        self.assertEqual(plan, plan_of("a learns b, c swaps a, b becomes d"))


class ImageTest(RefusingTest):
    def images(self, text, wanted, rounds=1):
        plan = plan_of(text)
        found = {name: str(circle) for name, circle in plan.images(rounds=rounds).items()}
        self.assertEqual(found, dict(piece.split(": ") for piece in wanted.split(", ")), (text, rounds))
        self.assertEqual(list(found), sorted(found))

    def test_chosen_plans(self):
        self.images("a learns b", "a: a & b, b: b")
        self.images("a blurs b", "a: a | b, b: b")
        self.images("a becomes b", "a: b, b: b")
        self.images("a swaps b", "a: b, b: a")
        self.images("b learns a", "a: a, b: a & b")
        self.images("b becomes c & (a & c)", "a: a, b: a & c, c: c")
        self.images("a learns a | b", "a: a, b: b")
        self.images("a learns b, b learns c", "a: a & b, b: b & c, c: c")
        self.images("b learns c, a learns b", "a: a & b & c, b: b & c, c: c")
        self.images("a learns b, a swaps c", "a: c, b: b, c: a & b")
        self.images("a learns b, a swaps c, b becomes c", "a: c, b: a & b, c: a & b")
        self.images("a blurs b & c, b becomes a", "a: a | (b & c), b: a | (b & c), c: c")
        self.images("a becomes b, b becomes a", "a: b, b: b")
        self.images("a swaps b, b swaps c", "a: b, b: c, c: a")

    def test_rounds(self):
        self.images("a learns b, b learns c", "a: a, b: b, c: c", 0)
        self.images("a learns b, b learns c", "a: a & b & c, b: b & c, c: c", 2)
        self.images("a swaps b, b swaps c", "a: c, b: a, c: b", 2)
        self.images("a swaps b, b swaps c", "a: a, b: b, c: c", 3)
        self.images("a swaps b, b swaps c", "a: c, b: a, c: b", 8)
        self.images("a becomes b | c, c learns a", "a: b | c, b: b, c: c", 1)
        self.images("a becomes b | c, c learns b", "a: b, b: b, c: b & c", 2)
        self.assertEqual([LADDER.image("a", rounds=rounds).size for rounds in range(6)], [1, 5, 9, 13, 17, 21])
        self.assertEqual(str(LADDER.image("a")), "(((a | d) & c) | b) & a")

    def test_image_and_images_agree(self):
        source = random.Random(71)
        for _ in range(100):
            plan, rounds = random_plan(source), source.randint(0, 2)
            try:
                images = plan.images(rounds=rounds)
            except TooMany:
                continue
            self.assertEqual(list(images), plan.eyes())
            for name in NAMES + ["z"]:
                self.assertEqual(plan.image(name, rounds=rounds), images.get(name, eye(name)))
                self.assertEqual(plan.image(name=name, rounds=1), plan.image(name))
                self.assertEqual(plan.pulled(eye(name), rounds=rounds), plan.image(name, rounds=rounds))
            self.assertEqual(plan.images(rounds=1), plan.images())

    def test_by_the_words(self):
        source = random.Random(72)
        done = 0
        for _ in range(200):
            plan, rounds = random_plan(source), source.choice([0, 1, 2, 3, 8])
            try:
                wanted = plain_images(plan.shares(), rounds)
            except PlainTooMany as error:
                self.refused(TooMany, {"what": error.what, "most": 60 if error.what == "eyes" else 20},
                             plan.images, rounds=rounds)
                continue
            images = plan.images(rounds=rounds)
            self.assertEqual({name: str(circle) for name, circle in images.items()}, wanted)
            for circle in images.values():
                self.assertIsInstance(circle, Circle)
                self.assertTrue(is_key(circle))
            done += 1
        self.assertGreater(done, 100)

    def test_pulled(self):
        plan = plan_of("a learns b, c swaps d")
        for text, rounds, wanted in [("a", 1, "a & b"), ("a | b", 1, "b"), ("a | c", 1, "(a & b) | d"),
                                     ("z & a", 0, "a & z"), ("c & d", 2, "c & d"), ("c & a & z", 3, "a & b & d & z"),
                                     ("b | b", 1, "b")]:
            self.assertEqual(plan.pulled(read_circle(text), rounds=rounds), read_circle(wanted), text)
        self.assertEqual(plan.pulled(circle=read_circle("z & a")), read_circle("a & b & z"))
        self.assertEqual(Plan().pulled(read_circle("b & a & (b | a)")), read_circle("a & b"))

    def test_pulled_is_a_key_of_what_is_put_in(self):
        source = random.Random(73)
        for _ in range(100):
            plan, circle = random_plan(source), random_circle(source, 4)
            images = plan.images()
            try:
                pulled = plan.pulled(circle)
            except TooMany:
                continue
            self.assertTrue(is_key(pulled))
            self.assertEqual(pulled, key_of(self.put(circle, images)))

    def put(self, circle, images):
        """The circle built anew, with images in place of eyes."""
        if circle.kind == "eye":
            return images.get(circle.name, circle)
        return (pool if circle.kind == "pool" else common)(*[self.put(part, images) for part in circle.parts()])


class TellingMoreTest(RefusingTest):
    def test_learning_and_blurring(self):
        source = random.Random(74)
        grown = {"learns": 0, "blurs": 0}
        for word in grown:
            for _ in range(60):
                plan = random_plan(source, 4, 3, (word,))
                for rounds in [1, 2]:
                    try:
                        ahead, behind = plan.images(rounds=rounds - 1), plan.images(rounds=rounds)
                    except TooMany:
                        continue
                    for name in plan.eyes():
                        pairs = [(behind[name], eye(name)), (behind[name], ahead[name])]
                        for more, less in pairs:
                            self.assertTrue(tells(more, less) if word == "learns" else tells(less, more))
                        grown[word] += behind[name] != ahead[name]
        self.assertGreater(min(grown.values()), 40)
