"""Tables of worlds, line by line."""

import unittest

from pooledeyes.showing import world_table
from pooledeyes.worlds import World
from tests.plainworlds import random_worlds


class ShowingTest(unittest.TestCase):
    def test_a_small_world(self):
        world = World(3, [("b", 1, 2), ("abcdef", 2, 3), ("ab", 1, 3), ("z", 1, 1)])
        self.assertEqual(list(world_table(world)), [
            "case     ab abcdef      b",
            "   1      1      1      1",
            "   2      2      2      1",
            "   3      1      2      3",
        ])

    def test_without_eyes(self):
        self.assertEqual(list(world_table(World(1))), ["case", "   1"])
        self.assertEqual(list(world_table(world=World(2, [("a", 2, 2)]))), ["case", "   1", "   2"])

    def test_random_worlds(self):
        for world, ties in random_worlds(81, 60, 12):
            lines = list(world_table(world))
            self.assertEqual(len(lines), world.many + 1)
            names = world.eyes()
            self.assertEqual([len(line) for line in lines], [4 + 7 * len(names)] * len(lines))
            self.assertEqual(lines[0], "case" + "".join(" " + name.rjust(6) for name in names))
            for case in range(1, world.many + 1):
                items = [str(world.partings()[name][case - 1]) for name in names]
                self.assertEqual(lines[case], str(case).rjust(4) + "".join(" " + item.rjust(6) for item in items))

    def test_2400_cases(self):
        lines = list(world_table(World(2400, [("a", 2399, 2400), ("long", 1, 2400)])))
        self.assertEqual([len(lines), lines[0], lines[1]], [2401, "case      a   long", "   1      1      1"])
        self.assertEqual(lines[1000:1001] + lines[2399:], ["1000   1000   1000", "2399   2399   2399",
                                                           "2400   2399      1"])

    def test_a_new_start_each_time(self):
        world = World(2, [("a", 1, 2)])
        first, second = world_table(world), world_table(world)
        self.assertEqual([next(first), next(first), next(second)], ["case      a", "   1      1", "case      a"])
        self.assertEqual([list(first), list(second)], [["   2      1"], ["   1      1", "   2      1"]])
        self.assertEqual([line for line in world_table(world) if "\n" in line], [])
