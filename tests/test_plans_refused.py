"""Plans: what is refused, and in which order."""

from pooledeyes.circles import common, eye, pool
from pooledeyes.circletexts import read_circle
from pooledeyes.errors import InvalidName, InvalidNumber, InvalidShare, TooMany, UnknownShare
from pooledeyes.plans import Plan
from pooledeyes.puts import put_in
from pooledeyes.worlds import World
from tests.anyvalues import any_values, but_names, but_numbers, without_circles
from tests.making import eyes_to, names_to, to_depth
from tests.reading import plan_of, shares_of
from tests.refusing import RefusingTest

A, B = eye("a"), eye("b")
SHARES = {"what": "shares", "most": 12}
EYES = {"what": "eyes", "most": 60}
DEPTH = {"what": "depth", "most": 20}
RIGHT = ("learns", "a", B)
# Each round puts four written eyes to the image of a, and makes it four deeper.
LADDER = plan_of("a learns b | (c & (a | d))")
# Each round puts a in twice.
DOUBLE = plan_of("a becomes ((a & b) | c) & ((a & d) | e)")
TWICE = read_circle("a & (a | zz)")


def pool_of(many):
    """A pool of so many eyes."""
    return pool(*eyes_to(many))


def pool_beside(many):
    """A pool of so many other eyes."""
    return pool(*[eye("x" + name) for name in names_to(many)])


def deep_beside(depth, size):
    """A circle of this depth with so many other eyes."""
    return put_in(to_depth(depth, size), {name: eye("y" + name) for name in names_to(size)})


class RefusedTest(RefusingTest):
    def test_shares(self):
        wrong = any_values() + [
            ("learns", "a"), ("learns", "a", B, B), ["learns", "a", B], ("learns", B, B), ("learns", "a", "b"),
            ("swaps", "a", B), ("swaps", "a", "a"), ("swaps", A, B), ("swaps", "a"), ("swaps", "a", "b", "c"),
            ("learn", "a", B), ("Learns", "a", B), ("", "a", B), (None, "a", B), (["learns"], "a", B), (0, "a", B),
            (RIGHT,), ("swaps", "a", "B"), ("blurs", "abcdefg", B), ("becomes", "", B), ("alike", "a", B)]
        for value in wrong:
            self.refused(InvalidShare, {"at": 0}, Plan, value)
            self.refused(InvalidShare, {"at": 2}, Plan, RIGHT, RIGHT, value, None)
            self.refused(InvalidShare, {"at": 12}, Plan, *[RIGHT] * 12, value)
        for word in ["learns", "blurs", "becomes", "swaps"]:
            for value in but_names():
                self.refused(InvalidShare, {"at": 1}, Plan, RIGHT, (word, value, "b" if word == "swaps" else B))
        for value in but_names():
            self.refused(InvalidShare, {"at": 1}, Plan, RIGHT, ("swaps", "abc", value))
        for word in ["learns", "blurs", "becomes"]:
            for value in without_circles():
                self.refused(InvalidShare, {"at": 1}, Plan, RIGHT, (word, "a", value))
        for value in any_values():
            self.refused(InvalidShare, {"at": 0}, Plan, (value, "a", B))

    def test_13_shares(self):
        self.assertEqual(len(Plan(*[RIGHT] * 12)), 12)
        for many in [13, 14, 30]:
            self.refused(TooMany, SHARES, Plan, *[RIGHT] * many)
            self.refused(InvalidShare, {"at": many}, Plan, *[RIGHT] * many, ("learns", "a", "b"))
        great = ("learns", "zz", pool_of(60))
        self.refused(TooMany, SHARES, Plan, *[great] * 13)
        self.refused(InvalidShare, {"at": 1}, Plan, great, None)

    def test_images_of_61_written_eyes(self):
        self.assertEqual(Plan(("learns", "a", pool_of(60))).image("a").size, 60)
        self.assertEqual(Plan(("learns", "zz", pool_of(59))).image("zz").size, 60)
        self.assertEqual(Plan(("becomes", "zz", pool_of(60))).image("zz").size, 60)
        self.refused(TooMany, EYES, Plan, ("learns", "zz", pool_of(60)))
        self.refused(TooMany, EYES, Plan, ("blurs", "zz", common(*eyes_to(60))))
        # It is built with all its eyes also if little is left of them when images are put in.
        shares = [("becomes", name, A) for name in names_to(11)[1:]]
        self.refused(TooMany, EYES, Plan, *shares, ("learns", "zz", pool_of(60)))
        self.assertEqual(Plan(*shares, ("learns", "zz", pool_of(59))).image("zz").size, 50)
        # The key would be a pool of 40 eyes, but 81 are written ahead of it.
        forty = ("becomes", "b", pool(*eyes_to(42)[2:]))
        self.refused(TooMany, EYES, Plan, forty, ("becomes", "a", read_circle("b & (b | zz)")))
        self.assertEqual(Plan(forty, ("becomes", "a", read_circle("b & (zz | yy)"))).image("a").size, 42)

    def test_images_of_the_depth_21(self):
        deep = to_depth(20, 30)
        self.assertEqual(deep.kind, "common")
        self.assertEqual(Plan(("becomes", "zz", deep)).image("zz").depth, 20)
        self.assertEqual(Plan(("blurs", "zz", deep)).image("zz").depth, 20)
        self.refused(TooMany, DEPTH, Plan, ("learns", "zz", deep))
        shares = [("becomes", "zz", to_depth(19, 30))]
        self.assertEqual(Plan(*shares, ("becomes", "yy", read_circle("zz | xx"))).image("yy").depth, 20)
        self.assertEqual(Plan(*shares, ("becomes", "yy", read_circle("zz & xx"))).image("yy").depth, 19)
        self.refused(TooMany, DEPTH, Plan, *shares, ("becomes", "yy", read_circle("(zz | xx) & ww")))
        self.refused(TooMany, DEPTH, Plan, *shares, ("becomes", "yy", read_circle("(zz | xx) & ww")),
                     ("learns", "uu", pool_of(60)))
        self.refused(TooMany, EYES, Plan, ("learns", "uu", pool_of(60)), *shares,
                     ("becomes", "yy", read_circle("(zz | xx) & ww")))

    def test_names(self):
        for value in but_names():
            for plan in [Plan(), LADDER]:
                self.refused(InvalidName, {"value": value}, plan.image, value)
                self.refused(InvalidName, {"value": value}, plan.image, value, rounds=9)

    def test_rounds(self):
        world = World(2, [("a", 1, 2)])
        for plan in [Plan(), plan_of("a learns b"), LADDER, DOUBLE]:
            for value in but_numbers(0, 8):
                self.refused(InvalidNumber, {"value": value}, plan.image, "a", rounds=value)
                self.refused(InvalidNumber, {"value": value}, plan.image, "z", rounds=value)
                self.refused(InvalidNumber, {"value": value}, plan.images, rounds=value)
                self.refused(InvalidNumber, {"value": value}, plan.pulled, A, rounds=value)
                self.refused(InvalidNumber, {"value": value}, plan.done, world, rounds=value)
            for rounds in [0, 8]:
                self.assertEqual(plan.done(world, rounds=rounds).many, 2)

    def test_images_of_too_many_rounds(self):
        self.grown(LADDER, [1, 5, 9, 13, 17, 21], DEPTH)
        self.grown(plan_of("a becomes (((a | b) & c) | d) & e"), [1, 5, 9, 13, 17, 21], DEPTH)
        self.grown(DOUBLE, [1, 6, 16, 26, 36], EYES)

    def grown(self, plan, sizes, told):
        """The image of a has these sizes, and is too great in more rounds."""
        shares = plan.shares()
        self.assertEqual([plan.image("a", rounds=rounds).size for rounds in range(len(sizes))], sizes)
        for rounds in range(len(sizes), 9):
            self.refused(TooMany, told, plan.image, "a", rounds=rounds)
            # Also where the answer does not need these images.
            self.refused(TooMany, told, plan.image, "b", rounds=rounds)
            self.refused(TooMany, told, plan.image, "zz", rounds=rounds)
            self.refused(TooMany, told, plan.images, rounds=rounds)
            self.refused(TooMany, told, plan.pulled, eye("zz"), rounds=rounds)
            self.refused(InvalidName, {"value": "Z"}, plan.image, "Z", rounds=rounds)
            self.assertEqual(plan.done(World(3), rounds=rounds), World(3))
        self.assertEqual(plan.shares(), shares)

    def test_pulled_circles_that_are_too_great(self):
        plan = Plan(("becomes", "a", pool_beside(40)), ("becomes", "b", deep_beside(3, 30)))
        self.refused(TooMany, EYES, plan.pulled, read_circle("a | b"))
        self.refused(TooMany, EYES, plan.pulled, TWICE)
        self.assertEqual(plan.pulled(A).size, 40)
        self.assertEqual(plan.pulled(read_circle("a | b"), rounds=0), read_circle("a | b"))
        deep = Plan(("becomes", "a", deep_beside(20, 30)))
        self.refused(TooMany, DEPTH, deep.pulled, read_circle("a & zz"))
        self.assertEqual(deep.pulled(read_circle("a | zz")).depth, 20)
        # What is within is built first, and of those side by side the left one.
        both = Plan(("becomes", "a", deep_beside(20, 30)), ("becomes", "b", pool_beside(40)))
        self.refused(TooMany, EYES, both.pulled, read_circle("(b & (b | zz)) | (a & yy)"))
        self.refused(TooMany, DEPTH, both.pulled, read_circle("(a & yy) | (b & (b | zz))"))
        self.refused(TooMany, DEPTH, both.pulled, read_circle("((a & yy) | zz) & (b | zz) & (b | yy)"))
        self.refused(TooMany, EYES, both.pulled, read_circle("a & (a | zz) & (b | zz)"))

    def test_unknown_shares(self):
        for many in [0, 1, 2, 12]:
            plan = Plan(*[("swaps", "a", "b")] * many)
            for value in but_numbers(0, many - 1):
                self.refused(UnknownShare, {"at": value}, plan.without, value)
            for value in but_numbers(0, many - 2):
                self.refused(UnknownShare, {"at": value}, plan.exchangeable, value)

    def test_plans_with_a_share_less_that_are_too_great(self):
        great, small = ("becomes", "a", pool_beside(42)), ("becomes", "a", B)
        deep, flat = ("becomes", "c", deep_beside(20, 30)), ("becomes", "c", B)
        twice, deeper = ("becomes", "d", TWICE), ("becomes", "e", read_circle("c & zz"))
        plan = Plan(great, small, deep, flat, twice, deeper)
        self.refused(TooMany, EYES, plan.without, 1)
        self.refused(TooMany, DEPTH, plan.without, 3)
        for at in [0, 2, 4, 5]:
            self.assertEqual(len(plan.without(at)), 5)
        # The share that comes first is asked first.
        self.refused(TooMany, EYES, plan.needless)
        self.refused(TooMany, DEPTH, Plan(deep, flat, great, small, twice, deeper).needless)
        self.refused(UnknownShare, {"at": 6}, plan.without, 6)
        self.assertEqual(plan.shares(), [great, small, deep, flat, twice, deeper])

    def test_plans_in_another_order_that_are_too_great(self):
        great, deep = ("becomes", "a", pool_beside(42)), ("becomes", "c", deep_beside(20, 30))
        plan = Plan(("becomes", "d", TWICE), great, ("becomes", "e", read_circle("c & zz")), deep)
        self.refused(TooMany, EYES, plan.exchangeable, 0)
        self.refused(TooMany, DEPTH, plan.exchangeable, 2)
        self.assertEqual(plan.exchangeable(1), True)
        self.refused(UnknownShare, {"at": 3}, plan.exchangeable, 3)

    def test_plans_put_together(self):
        twelve = Plan(*[("swaps", "a", "b")] * 12)
        self.refused(TooMany, SHARES, twelve.followed_by, Plan(RIGHT))
        self.refused(TooMany, SHARES, Plan(RIGHT).followed_by, twelve)
        self.refused(TooMany, SHARES, twelve.followed_by, Plan(("becomes", "zz", pool_of(60))))
        self.assertEqual(twelve.followed_by(Plan()), twelve)
        great = Plan(("becomes", "a", pool_beside(42)))
        self.refused(TooMany, EYES, great.followed_by, plan_of("b becomes a & (a | zz)"))
        self.assertEqual(len(plan_of("b becomes a & (a | zz)").followed_by(great)), 2)
        deep = Plan(("becomes", "a", deep_beside(20, 30)))
        self.refused(TooMany, DEPTH, deep.followed_by, plan_of("b learns a, c blurs b"))
