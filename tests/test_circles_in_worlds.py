"""Partings of circles; worlds beside one another and kept to cases; more alike is more."""

import random

from pooledeyes.circles import common, eye, pool
from pooledeyes.circletexts import read_circle
from pooledeyes.partings import apart, is_within, together
from pooledeyes.puts import exchanged, put_in
from pooledeyes.worlds import World
from tests.making import deepened, eyes_to, names_to
from tests.plainworlds import parting_from, plain_relation, random_circle, random_ties, random_worlds
from tests.refusing import RefusingTest


def alike_pairs(world, circle):
    """The set of the pairs of cases that are alike to a circle, asked one by one."""
    cases = range(1, world.many + 1)
    return {(u, v) for u in cases for v in cases if world.alike(circle, u, v)}


class PartingTest(RefusingTest):
    def test_eyes_pools_and_commons(self):
        world = World.parted(5, {"a": (1, 1, 3, 3, 5), "b": (1, 2, 2, 4, 5), "c": (1, 1, 1, 1, 5)})
        for text, wanted in [("a", (1, 1, 3, 3, 5)), ("d", (1, 2, 3, 4, 5)), ("a & b", (1, 2, 3, 4, 5)),
                             ("a | b", (1, 1, 1, 1, 5)), ("a & c", (1, 1, 3, 3, 5)), ("c | d", (1, 1, 1, 1, 5)),
                             ("b | (a & c)", (1, 1, 1, 1, 5)), ("b & (a | c)", (1, 2, 2, 4, 5)), ("a & d", apart(5))]:
            self.assertEqual(world.parting(read_circle(text)), wanted)
            self.assertEqual(world.parting(circle=read_circle(text)), wanted)

    def test_random_circles(self):
        source = random.Random(41)
        for world, ties in random_worlds(42, 120, 7):
            for _ in range(4):
                circle = random_circle(source, 9)
                relation = plain_relation(world.many, ties, circle)
                self.assertEqual(world.parting(circle), parting_from(world.many, relation))
                self.assertEqual(alike_pairs(world, circle), relation)

    def test_tells_random_circles(self):
        source = random.Random(43)
        said = []
        for world, ties in random_worlds(44, 200, 6):
            t, s = random_circle(source, 6), random_circle(source, 6)
            wanted = plain_relation(world.many, ties, t) <= plain_relation(world.many, ties, s)
            self.assertIs(world.tells(t, s), wanted)
            self.assertIs(world.tells(s=s, t=t), wanted)
            self.assertIs(world.tells(t, t), True)
            said.append(wanted)
        self.assertGreater(min(said.count(True), said.count(False)), 30)

    def test_alike_by_name(self):
        world = World(3, [("a", 1, 2)])
        self.assertIs(world.alike(other=1, one=2, circle=eye("a")), True)
        self.assertIs(world.alike(circle=eye("a"), one=1, other=3), False)

    def test_pools_tell_their_parts_and_parts_tell_commons(self):
        source = random.Random(45)
        for world, ties in random_worlds(46, 100, 9):
            first, second = random_circle(source, 5), random_circle(source, 5)
            for one in [first, second]:
                self.assertTrue(world.tells(first & second, one))
                self.assertTrue(world.tells(one, first | second))

    def test_one_case(self):
        for circle in [eye("a"), read_circle("a & b"), read_circle("a | (b & c)")]:
            self.assertEqual(World(1).parting(circle), (1,))
            self.assertIs(World(1).alike(circle, 1, 1), True)
            self.assertIs(World(1).tells(circle, eye("z")), True)

    def test_the_greatest_circles_and_worlds(self):
        names = names_to(60)
        road = World(2400, [(names[case % 60], case, case + 1) for case in range(1, 2400)])
        wide = common(*eyes_to(60))
        self.assertEqual([road.parting(wide), road.parting(pool(*eyes_to(60)))], [together(2400), apart(2400)])
        self.assertEqual([road.alike(wide, 1, 2400), road.tells(pool(*eyes_to(60)), wide)], [True, True])
        less = common(*eyes_to(59))
        self.assertEqual(road.parting(less)[58:61], (1, 60, 60))
        deep = deepened(pool(*eyes_to(41)), 19)
        self.assertEqual([deep.size, deep.depth, len(road.parting(deep))], [60, 20, 2400])
        self.assertEqual(World(2400).parting(deep), apart(2400))


class BesideTest(RefusingTest):
    def test_two_worlds(self):
        first, second = World(2, [("a", 1, 2), ("b", 1, 2)]), World(3, [("a", 1, 3), ("c", 2, 3)])
        both = first + second
        self.assertEqual(both.text(), "cases 5\na 1 1 3 4 3\nb 1 1 3 4 5\nc 1 2 3 4 4\n")
        self.assertEqual((second + first).text(), "cases 5\na 1 2 1 4 4\nb 1 2 3 4 4\nc 1 2 2 4 5\n")
        self.assertEqual([first.text(), second.text()], ["cases 2\na 1 1\nb 1 1\n", "cases 3\na 1 2 1\nc 1 2 2\n"])

    def test_cases_alone(self):
        self.assertTrue(World(1) + World(1) == World(2))
        self.assertTrue(World(1) + World(2, [("a", 1, 2)]) == World(3, [("a", 2, 3)]))
        world = World(3, [("a", 1, 2)])
        self.assertEqual((world + world).text(), "cases 6\na 1 1 3 4 4 6\n")

    def test_circles_take_for_alike_what_they_took(self):
        source = random.Random(47)
        worlds = random_worlds(48, 120, 6)
        for first, second in zip(worlds[::2], worlds[1::2]):
            both = first[0] + second[0]
            shift = first[0].many
            self.assertEqual([both.many, len(both)], [shift + second[0].many] * 2)
            for _ in range(3):
                circle = random_circle(source, 7)
                behind = plain_relation(second[0].many, second[1], circle)
                wanted = plain_relation(shift, first[1], circle) | {(u + shift, v + shift) for u, v in behind}
                self.assertEqual(alike_pairs(both, circle), wanted)

    def test_one_after_another(self):
        worlds = [world for world, ties in random_worlds(49, 30, 6)]
        for first, second, third in zip(worlds[::3], worlds[1::3], worlds[2::3]):
            self.assertTrue((first + second) + third == first + (second + third))

    def test_great_worlds(self):
        first, second = World(1200, [("a", 1, 1200)]), World(1200, [("a", 1, 1200), ("b", 2, 1199)])
        both = first + second
        self.assertTrue(both == World(2400, [("a", 1, 1200), ("a", 1201, 2400), ("b", 1202, 2399)]))


class KeptTest(RefusingTest):
    def test_some_cases(self):
        world = World.parted(5, {"a": (1, 1, 3, 1, 3), "b": (1, 2, 2, 4, 5), "c": (1, 1, 1, 1, 1)})
        for cases, text in [
            ([1, 2, 3, 4, 5], world.text()),
            ([5], "cases 1\n"),
            ([2, 4, 5], "cases 3\na 1 1 3\nc 1 1 1\n"),
            ((4, 2, 5), "cases 3\na 1 1 3\nc 1 1 1\n"),
            ([3, 2], "cases 2\nb 1 1\nc 1 1\n"),
            ([5, 3, 1], "cases 3\na 1 2 2\nc 1 1 1\n"),
        ]:
            self.assertEqual(world.kept_to(cases).text(), text)
            self.assertEqual(world.kept_to(cases=cases).text(), text)

    def test_random_cases(self):
        source = random.Random(50)
        for world, ties in random_worlds(51, 150, 8):
            cases = source.sample(range(1, world.many + 1), source.randint(1, world.many))
            passed = list(cases)
            kept = world.kept_to(cases)
            self.assertEqual(cases, passed)
            cases = sorted(cases)
            self.assertEqual(kept.many, len(cases))
            for name in ["a", "b", "c", "d", "long", "z"]:
                relation = plain_relation(world.many, ties, eye(name))
                wanted = {(u + 1, v + 1) for u, one in enumerate(cases) for v, other in enumerate(cases)
                          if (one, other) in relation}
                self.assertEqual(alike_pairs(kept, eye(name)), wanted)

    def test_a_common_may_lose_what_was_alike(self):
        world = World(3, [("a", 1, 2), ("b", 2, 3)])
        self.assertTrue(world.alike(read_circle("a | b"), 1, 3))
        self.assertFalse(world.kept_to([1, 3]).alike(read_circle("a | b"), 1, 2))

    def test_all_cases_and_the_two_sides(self):
        for world, ties in random_worlds(52, 40, 7):
            both = world + world
            cases = list(range(1, both.many + 1))
            self.assertTrue(both.kept_to(cases[::-1]) == both)
            self.assertTrue(both.kept_to(cases[:world.many]) == world)
            self.assertTrue(both.kept_to(cases[world.many:]) == world)

    def test_2400_cases(self):
        road = World(2400, [("ab"[case % 2], case, case + 1) for case in range(1, 2400)])
        self.assertTrue(road.kept_to(list(range(2400, 0, -1))) == road)
        self.assertTrue(road.kept_to(list(range(2, 2401, 2))) == World(1200))
        self.assertTrue(road.kept_to((2400, 1)) == World(2))


class MoreAlikeTest(RefusingTest):
    def test_further_ties(self):
        source = random.Random(53)
        for world, ties in random_worlds(54, 150, 8):
            tied = world
            for name, one, other in random_ties(source, world.many, ["a", "b", "c", "d", "long"], 3):
                further = tied.tied(name, one, other)
                circle = random_circle(source, 9)
                self.assertTrue(further.alike(eye(name), one, other))
                self.assertTrue(is_within(tied.parting(circle), further.parting(circle)))
                tied = further

    def test_eyes_exchanged_in_world_and_circle(self):
        source = random.Random(55)
        for world, ties in random_worlds(56, 150, 8):
            circle = random_circle(source, 9)
            for first, second in [("a", "b"), ("c", "sixsix"), ("long", "x"), ("a", "a")]:
                parting = world.exchanged(first, second).parting(exchanged(circle, first, second))
                self.assertEqual(parting, world.parting(circle))

    def test_circles_put_in_for_eyes(self):
        source = random.Random(57)
        for world, ties in random_worlds(58, 150, 8):
            circle = random_circle(source, 6)
            images = {name: random_circle(source, 4) for name in ["a", "b", "c"]}
            partings = {**world.partings(), **{name: world.parting(image) for name, image in images.items()}}
            put = World.parted(world.many, partings)
            self.assertEqual(put.parting(circle), world.parting(put_in(circle, images)))
