"""Sights: the partings of all circles with some eyes in one world."""

import random

from pooledeyes.circles import Circle
from pooledeyes.errors import InvalidEyes, InvalidParting, TooMany
from pooledeyes.partings import all_partings, apart, is_parting, is_within, join_of, meet_of, together
from pooledeyes.sights import Sights
from pooledeyes.worlds import World
from tests.anyvalues import any_values
from tests.plainbooks import eye_relation, plain_sizes
from tests.plainworlds import random_circle, random_ties
from tests.refusing import RefusingTest

# Worlds with just so many sights for the eyes a to f.
MANY = {
    199: "cases 8\na 1 2 3 4 5 5 1 1\nb 1 1 3 4 5 6 7 8\nc 1 2 3 2 3 3 3 8\nd 1 2 3 3 5 6 7 3\ne 1 2 3 4 5 4 7 8\n",
    200: "cases 8\na 1 2 2 4 5 6 1 8\nb 1 2 1 4 1 6 7 1\nc 1 2 3 4 5 4 7 4\nd 1 2 3 3 3 6 7 8\ne 1 2 3 4 5 6 7 2\n"
         "f 1 2 3 4 5 6 3 8\n",
    201: "cases 8\na 1 1 3 4 5 6 1 1\nb 1 1 3 4 5 6 6 8\nc 1 2 3 2 5 6 7 8\nd 1 2 3 4 2 6 7 7\ne 1 2 3 3 5 3 7 8\n"
         "f 1 2 2 4 5 6 7 8\n",
    203: "cases 6\na 1 2 3 4 2 4\nb 1 2 1 4 4 6\nc 1 1 1 4 5 6\nd 1 2 3 3 5 3\ne 1 1 3 4 3 3\n",
}
METHODS = ["circle_for", "least_size", "inner", "outer"]


def random_sights(seed, count, most):
    """A list of so many (world, ties, names, sights) with up to so many cases."""
    source = random.Random(seed)
    found = []
    for _ in range(count):
        many = source.randint(1, most)
        ties = random_ties(source, many, ["a", "b", "c", "d"], source.randint(0, 8))
        names = source.sample(["a", "b", "c", "d", "z"], source.randint(1, 4))
        world = World(many, ties)
        found.append((world, ties, names, Sights(world, names)))
    return found


class SightsTest(RefusingTest):
    def test_two_eyes(self):
        world = World(3, [("a", 1, 2), ("b", 1, 3), ("c", 2, 3)])
        sights = Sights(world, ["b", "a"])
        self.assertEqual([sights.begun, sights.eyes(), len(sights), repr(sights)],
                         [world, ["b", "a"], 4, "Sights(4 partings)"])
        self.assertEqual(sights.partings(), [(1, 1, 1), (1, 1, 3), (1, 2, 1), (1, 2, 3)])
        self.assertEqual([sights.least_size(parting) for parting in sights.partings()], [2, 1, 1, 2])
        self.assertEqual([str(sights.circle_for((1, 1, 3))), str(sights.circle_for((1, 2, 1)))], ["a", "b"])
        self.assertEqual([sights.circle_for((1, 2, 2)), sights.least_size((1, 2, 2))], [None, None])
        self.assertEqual([sights.inner((1, 2, 2)), sights.outer((1, 2, 2))], [(1, 2, 3), (1, 1, 1)])
        self.assertEqual([sights.inner((1, 1, 3)), sights.outer((1, 1, 3))], [(1, 1, 3), (1, 1, 3)])
        self.assertIs(bool(sights), True)

    def test_one_eye(self):
        for names in [["a"], ("a",)]:
            sights = Sights(World(3, [("a", 1, 3)]), names)
            self.assertEqual([sights.partings(), sights.eyes(), len(sights), repr(sights)],
                             [[(1, 2, 1)], ["a"], 1, "Sights(1 partings)"])
            self.assertEqual([sights.inner((1, 2, 3)), sights.outer((1, 2, 3))], [None, (1, 2, 1)])
            self.assertEqual([sights.inner((1, 1, 1)), sights.outer((1, 1, 1))], [(1, 2, 1), None])
            self.assertEqual([sights.inner((1, 1, 3)), sights.outer((1, 1, 3))], [None, None])
        sights = Sights(world=World(2), eyes=("z",))
        self.assertEqual([sights.partings(), sights.least_size((1, 2)), str(sights.circle_for((1, 2)))],
                         [[(1, 2)], 1, "z"])

    def test_one_case(self):
        sights = Sights(World(1), ["a", "b", "c", "d", "e", "f"])
        self.assertEqual([sights.partings(), len(sights), sights.least_size((1,)), sights.circle_for((1,)).size],
                         [[(1,)], 1, 1, 1])
        self.assertEqual([sights.inner((1,)), sights.outer((1,))], [(1,), (1,)])

    def test_the_second_way(self):
        for world, ties, names, sights in random_sights(401, 120, 5):
            relations = [eye_relation(world.many, ties, name) for name in names]
            wanted = plain_sizes(world.many, relations, 5)
            partings = sights.partings()
            self.assertEqual(partings, sorted(set(partings)))
            self.assertEqual({parting for parting in partings if sights.least_size(parting) <= 5}, set(wanted))
            for parting in partings:
                size = sights.least_size(parting)
                self.assertTrue(size > 5 or size == wanted[parting])
            self.assertEqual([len(sights), repr(sights)], [len(partings), f"Sights({len(partings)} partings)"])
            self.assertEqual([sights.begun, sights.eyes()], [world, names])

    def test_meets_and_joins_are_sights(self):
        for world, ties, names, sights in random_sights(402, 60, 5):
            partings = sights.partings()
            for one in partings:
                for other in partings:
                    self.assertIn(meet_of(one, other), partings)
                    self.assertIn(join_of(one, other), partings)

    def test_circles_of_the_least_size(self):
        for world, ties, names, sights in random_sights(403, 120, 6):
            for parting in sights.partings():
                circle = sights.circle_for(parting)
                self.assertIsInstance(circle, Circle)
                self.assertEqual([world.parting(circle), circle.size], [parting, sights.least_size(parting)])
                self.assertLessEqual(set(circle.eyes()), set(names))
                self.assertEqual(circle, sights.circle_for(parting=parting))
                self.assertEqual(sights.least_size(parting=parting), circle.size)

    def test_circles_are_sights(self):
        source = random.Random(404)
        for _ in range(150):
            many = source.randint(1, 6)
            world = World(many, random_ties(source, many, ["a", "b", "c", "d", "long", "sixsix"], source.randint(0, 7)))
            try:
                sights = Sights(world, ["a", "b", "c", "d", "long", "sixsix"])
            except TooMany:
                continue
            for _ in range(10):
                circle = random_circle(source, 9)
                parting = world.parting(circle)
                self.assertIs(parting in sights, True)
                self.assertLessEqual(sights.least_size(parting), circle.size)
                self.assertIn(parting, sights.partings())

    def test_inner_and_outer(self):
        for world, ties, names, sights in random_sights(405, 60, 5):
            partings = sights.partings()
            for wish in all_partings(world.many):
                inside = [parting for parting in partings if is_within(parting, wish)]
                outside = [parting for parting in partings if is_within(wish, parting)]
                inner, outer = sights.inner(wish), sights.outer(parting=wish)
                self.assertIs(inner is None, inside == [])
                self.assertIs(outer is None, outside == [])
                if inside:
                    self.assertTrue(inner in inside and all(is_within(parting, inner) for parting in inside))
                if outside:
                    self.assertTrue(outer in outside and all(is_within(outer, parting) for parting in outside))
                self.assertIs(wish in sights, wish in partings)
                if wish not in partings:
                    self.assertEqual([sights.circle_for(wish), sights.least_size(wish)], [None, None])
                else:
                    self.assertEqual([inner, outer], [wish, wish])

    def test_any_value_in_sights(self):
        sights = Sights(World(2, [("a", 1, 2)]), ["a", "b"])
        self.assertEqual([(1, 1) in sights, (1, 2) in sights, (1,) in sights, (1, 2, 3) in sights],
                         [True, True, False, False])
        for value in any_values() + [[1, 1], (1, True), (True, True), (1, 1.0), (1, 3), (2, 1), (1, 0), ((1, 1),),
                                     [(1, 2)]]:
            self.assertIs(value in sights, value == (1, 2) and is_parting(value))

    def test_lists_are_new(self):
        names = ["a", "b"]
        sights = Sights(World(3, [("a", 1, 2), ("b", 2, 3)]), names)
        before = sights.partings()
        names.append("c")
        sights.partings().clear()
        sights.eyes().clear()
        self.assertEqual([sights.partings(), sights.eyes()], [before, ["a", "b"]])

    def test_the_order_of_the_eyes(self):
        world = World(4, [("a", 1, 2), ("b", 2, 3), ("c", 3, 4)])
        for names in [["c", "a", "b"], ("b", "c", "a"), ["a", "b", "c"]]:
            self.assertEqual(Sights(world, names).eyes(), list(names))
            self.assertEqual(Sights(world, names).partings(), Sights(world, ["a", "b", "c"]).partings())

    def test_up_to_200_sights(self):
        for many, text in MANY.items():
            world = World.read(text)
            if many > 200:
                self.refused(TooMany, {"what": "circles", "most": 200}, Sights, world, list("abcdef"))
                self.refused(TooMany, {"what": "circles", "most": 200}, Sights, eyes=tuple("fedcba"), world=world)
                continue
            sights = Sights(world, list("abcdef"))
            self.assertEqual([len(sights), len(sights.partings()), repr(sights)],
                             [many, many, f"Sights({many} partings)"])
            for parting in sights.partings():
                circle = sights.circle_for(parting)
                self.assertEqual([world.parting(circle), circle.size], [parting, sights.least_size(parting)])

    def test_sights_without_end(self):
        source = random.Random(406)
        world = World(40, random_ties(source, 40, list("abcdef"), 60))
        self.refused(TooMany, {"what": "circles", "most": 200}, Sights, world, list("abcdef"))
        self.refused(TooMany, {"what": "circles", "most": 200}, Sights,
                     World(2400, random_ties(source, 2400, list("abc"), 4000)),
                     list("abc"))

    def test_long_least_circles(self):
        world = World.read("cases 6\na 1 2 2 4 5 6\nb 1 2 3 4 2 3\nc 1 2 1 4 5 5\nd 1 2 3 4 1 6\nf 1 2 3 2 5 6\n")
        sights = Sights(world, list("abcdef"))
        sizes = [sights.least_size(parting) for parting in sights.partings()]
        self.assertEqual([len(sights), max(sizes)], [104, 23])
        for parting in sights.partings():
            circle = sights.circle_for(parting)
            self.assertEqual([world.parting(circle), circle.size], [parting, sights.least_size(parting)])

    def test_a_least_size_of_60(self):
        world = World.read("cases 12\na 1 2 3 3 5 6 2 8 8 1 5 12\nb 1 2 3 2 1 6 7 6 3 10 10 12\n"
                           "c 1 1 3 3 5 6 7 7 5 6 5 5\n")
        sights, parting = Sights(world, ["a", "b", "c"]), (1, 2, 3, 3, 1, 6, 6, 2, 6, 1, 1, 12)
        self.assertEqual([len(sights), sights.least_size(parting)], [127, 60])
        circle = sights.circle_for(parting)
        self.assertEqual([world.parting(circle), circle.size], [parting, 60])

    def test_least_sizes_above_the_bounds(self):
        world = World.read("cases 11\na 1 2 3 4 1 4 7 1 7 3 11\nb 1 2 3 4 3 6 7 3 6 4 3\nc 1 1 3 1 5 5 7 7 3 1 11\n")
        sights = Sights(world, ["a", "b", "c"])
        sizes = [sights.least_size(parting) for parting in sights.partings()]
        self.assertEqual([len(sights), max(sizes)], [102, 90])
        self.assertGreater(len([size for size in sizes if size > 60]), 1)
        for parting, size in zip(sights.partings(), sizes):
            self.assertIs(parting in sights, True)
            if size > 60:
                self.refused(TooMany, {"what": "eyes", "most": 60}, sights.circle_for, parting)
            elif size <= 21:
                circle = sights.circle_for(parting)
                self.assertEqual([world.parting(circle), circle.size], [parting, size])
            else:
                # Only where a circle of this size is deeper than 20, TooMany may be raised.
                try:
                    circle = sights.circle_for(parting)
                except TooMany as error:
                    self.assertEqual([error.what, error.most], ["depth", 20])
                else:
                    self.assertEqual([world.parting(circle), circle.size], [parting, size])

    def test_many_cases(self):
        world = World(2400, [("a", case, case + 1) for case in range(1, 2400, 2)] +
                      [("b", case, case + 1) for case in range(2, 2400, 2)])
        sights = Sights(world, ["a", "b"])
        self.assertEqual([len(sights), sights.outer(apart(2400)), sights.inner(together(2400))],
                         [4, apart(2400), together(2400)])
        self.assertIn(str(sights.circle_for(together(2400))), ["a | b", "b | a"])
        self.assertEqual([sights.least_size(together(2400)), sights.least_size(apart(2400))], [2, 2])


class RefusedTest(RefusingTest):
    def test_wrong_eyes(self):
        good = [["a"], ("a",), ["a", "b"], ("a", "b")]
        for value in any_values():
            if value not in good:
                self.refused(InvalidEyes, {}, Sights, World(3), value)
                self.refused(InvalidEyes, {}, Sights, eyes=value, world=World(1))
            if not isinstance(value, str) or value not in ("a", "abcdef"):
                for row in [[value], ("b", value), [value, "b", "c"]]:
                    self.refused(InvalidEyes, {}, Sights, World(3), row)
        for row in [["a", "a"], ("b", "a", "b"), list("abcdefg"), tuple("abcdefg"), list("abcdea"), "abc", "a",
                    {"a": 1}, {"a"}, ["a", "B"], [["a"]], [("a",)], ["a", None], ["a", ["b"]]]:
            self.refused(InvalidEyes, {}, Sights, World(2), row)
        self.assertEqual(len(Sights(World(2), list("abcdef"))), 1)

    def test_wrong_eyes_ahead_of_too_many(self):
        world = World.read(MANY[201])
        self.refused(InvalidEyes, {}, Sights, world, list("abcdefg"))
        self.refused(InvalidEyes, {}, Sights, world, list("abcdee"))

    def test_wrong_partings(self):
        sights = Sights(World(3, [("a", 1, 2)]), ["a", "b"])
        wrong = any_values() + [(1, 2), (1, 2, 3, 4), [1, 2, 3], (1, 2, 4), (2, 2, 3), (1, 1, 2), (1, True, 3),
                                (True, 2, 3),
                                (1, 2, "3"), (1, 2, None), (0, 2, 3), (1, 2, -3), ((1, 2, 3),), (1, 2, (3,))]
        for value in wrong:
            for name in METHODS:
                method = getattr(sights, name)
                self.refused(InvalidParting, {"value": value}, method, value)
                self.refused(InvalidParting, {"value": value}, method, parting=value)
            self.assertIs(value in sights, False)
