"""Worlds from ties, from partings, of one tie after another and of nothing, and what they tell of themselves."""

import itertools
import random

from pooledeyes.circles import eye
from pooledeyes.partings import all_partings, apart, together
from pooledeyes.worlds import World
from tests.anyvalues import any_values
from tests.making import names_to
from tests.plainworlds import closed, parting_from, random_ties, random_worlds
from tests.refusing import RefusingTest


def told(world):
    """All that a world tells of itself."""
    return [world.many, len(world), world.eyes(), list(world.partings().items()), world.text(), str(world), repr(world)]


def text_of(many, partings):
    """The text of a world, by the words of the document."""
    lines = [" ".join([name] + [str(item) for item in partings[name]]) for name in sorted(partings)]
    return "".join(line + "\n" for line in [f"cases {many}"] + lines)


class FromTiesTest(RefusingTest):
    def test_of_nothing(self):
        for many in [1, 2, 3, 2400]:
            for world in [World(many), World(many, []), World(many, ()), World(many=many, ties=[])]:
                self.assertEqual(told(world), [many, many, [], [], f"cases {many}\n", f"cases {many}\n",
                                               f"World({many} cases)"])
                self.assertEqual(world.parting(eye("a")), apart(many))

    def test_of_ties(self):
        world = World(5, [("a", 1, 2), ("b", 2, 3), ("a", 3, 4)])
        text = "cases 5\na 1 1 3 3 5\nb 1 2 2 4 5\n"
        self.assertEqual(told(world), [5, 5, ["a", "b"], [("a", (1, 1, 3, 3, 5)), ("b", (1, 2, 2, 4, 5))], text, text,
                                       "World(5 cases)"])

    def test_names_ascend(self):
        world = World(2, [("b", 1, 2), ("ba", 2, 1), ("aab", 1, 2), ("zzzzzz", 1, 2), ("ab", 1, 2)])
        self.assertEqual(world.eyes(), ["aab", "ab", "b", "ba", "zzzzzz"])
        self.assertEqual(list(world.partings()), ["aab", "ab", "b", "ba", "zzzzzz"])

    def test_eyes_that_tell_all_cases_apart_do_not_count(self):
        world = World(3, [("a", 1, 1), ("b", 3, 3), ("c", 2, 3), ("b", 2, 2)])
        self.assertEqual([world.eyes(), world.text()], [["c"], "cases 3\nc 1 2 2\n"])
        self.assertTrue(world == World(3, [("c", 3, 2)]))
        self.assertEqual(World(1, [("a", 1, 1)]).text(), "cases 1\n")

    def test_no_more_than_follows(self):
        source = random.Random(21)
        for _ in range(300):
            many = source.randint(1, 8)
            ties = random_ties(source, many, ["a", "b", "cc"], source.randint(0, 8))
            world = World(many, ties)
            wanted = {}
            for name in ["a", "b", "cc"]:
                parting = parting_from(many, closed(many, [(u, v) for one, u, v in ties if one == name]))
                self.assertEqual(world.parting(eye(name)), parting)
                if parting != apart(many):
                    wanted[name] = parting
            self.assertEqual(list(world.partings().items()), list(wanted.items()))
            self.assertEqual([world.eyes(), world.text()], [list(wanted), text_of(many, wanted)])
            self.assertEqual([str(world), len(world), world.many], [world.text(), many, many])

    def test_the_order_of_ties_means_nothing(self):
        ties = [("a", 1, 2), ("b", 2, 3), ("a", 3, 2), ("b", 5, 4), ("a", 5, 5)]
        for row in itertools.permutations(ties):
            self.assertTrue(World(5, row) == World(5, ties))
            self.assertTrue(World(5, [(name, v, u) for name, u, v in row] * 2) == World(5, ties))

    def test_2400_cases(self):
        road = World(2400, [("a" if case % 2 else "b", case, case + 1) for case in range(1, 2400)])
        self.assertEqual([len(road), road.eyes(), repr(road)], [2400, ["a", "b"], "World(2400 cases)"])
        self.assertEqual(road.partings()["a"], tuple(case - 1 + case % 2 for case in range(1, 2401)))
        self.assertEqual(World(2400, [("a", case, 2400) for case in range(1, 2400)]).parting(eye("a")), together(2400))

    def test_limit(self):
        self.assertEqual([World.LIMIT, World(2).LIMIT], [2400, 2400])


class FromPartingsTest(RefusingTest):
    def test_of_partings(self):
        world = World.parted(3, {"b": (1, 1, 1), "c": (1, 2, 3), "a": (1, 2, 1)})
        self.assertEqual(told(world)[2:5], [["a", "b"], [("a", (1, 2, 1)), ("b", (1, 1, 1))],
                                            "cases 3\na 1 2 1\nb 1 1 1\n"])
        self.assertTrue(world == World(3, [("a", 1, 3), ("b", 1, 2), ("b", 2, 3)]))

    def test_of_nothing(self):
        for world in [World.parted(1, {}), World.parted(many=1, partings={"a": (1,)})]:
            self.assertTrue(world == World(1))
        self.assertTrue(World.parted(2400, {"a": apart(2400)}) == World(2400))

    def test_the_order_of_the_keys_means_nothing(self):
        partings = {"b": (1, 1, 1), "c": (1, 1, 3), "a": (1, 2, 1), "ab": (1, 2, 3)}
        wanted = told(World.parted(3, partings))
        for names in itertools.permutations(partings):
            self.assertEqual(told(World.parted(3, {name: partings[name] for name in names})), wanted)

    def test_all_pairs_of_partings(self):
        for one, other in itertools.product(all_partings(4), repeat=2):
            world = World.parted(4, {"b": one, "a": other})
            self.assertEqual([world.parting(eye("a")), world.parting(eye("b"))], [other, one])
            wanted = {name: row for name, row in [("a", other), ("b", one)] if row != apart(4)}
            self.assertEqual(world.partings(), wanted)

    def test_partings_make_the_world_again(self):
        for world, ties in random_worlds(22, 100, 8):
            self.assertTrue(World.parted(world.many, world.partings()) == world)
            again = [(name, case, item) for name, row in world.partings().items() for case, item in enumerate(row, 1)]
            self.assertTrue(World(world.many, again) == world)

    def test_many_eyes_and_cases(self):
        partings = {name: together(2400) for name in names_to(60)}
        world = World.parted(2400, partings)
        self.assertEqual([world.eyes(), world.partings()], [sorted(partings), partings])

    def test_off_an_object(self):
        self.assertTrue(World(5).parted(2, {"a": (1, 1)}) == World(2, [("a", 1, 2)]))


class TiedTest(RefusingTest):
    def test_one_tie_after_another(self):
        for world, ties in random_worlds(23, 150, 8):
            tied = World(world.many)
            for at, (name, one, other) in enumerate(ties):
                ahead = tied.text()
                behind = tied.tied(name, one, other)
                self.assertTrue(behind == World(world.many, ties[:at + 1]))
                self.assertEqual(tied.text(), ahead)
                tied = behind
            self.assertEqual(told(tied), told(world))

    def test_by_name(self):
        world = World(3, [("a", 1, 2)])
        self.assertEqual(world.tied(other=2, one=3, name="b").text(), "cases 3\na 1 1 3\nb 1 2 2\n")
        self.assertEqual(world.tied("a", 3, 2).text(), "cases 3\na 1 1 1\n")
        self.assertEqual(world.text(), "cases 3\na 1 1 3\n")

    def test_a_case_with_itself(self):
        for name in ["a", "b"]:
            world = World(3, [("a", 1, 2)])
            self.assertTrue(world.tied(name, 3, 3) == world)

    def test_2400_cases(self):
        world = World(2400).tied("a", 2400, 1)
        self.assertEqual(world.parting(eye("a")), apart(2399) + (1,))


class ExchangedTest(RefusingTest):
    def test_partings_are_exchanged(self):
        world = World.parted(3, {"a": (1, 1, 3), "b": (1, 2, 2), "c": (1, 1, 1)})
        wanted = World.parted(3, {"a": (1, 2, 2), "b": (1, 1, 3), "c": (1, 1, 1)})
        self.assertTrue(world.exchanged("a", "b") == wanted)
        self.assertTrue(world.exchanged(second="a", first="b") == wanted)
        self.assertEqual(world.partings(), {"a": (1, 1, 3), "b": (1, 2, 2), "c": (1, 1, 1)})

    def test_with_an_eye_that_tells_all_cases_apart(self):
        world = World(3, [("b", 1, 2)])
        for first, second in [("a", "b"), ("b", "a")]:
            self.assertEqual(told(world.exchanged(first, second)), told(World(3, [("a", 1, 2)])))
        self.assertTrue(world.exchanged("x", "y") == world)

    def test_the_same_eye(self):
        for name in ["a", "b"]:
            world = World(3, [("b", 1, 2)])
            self.assertEqual(told(world.exchanged(name, name)), told(world))

    def test_back_again(self):
        for world, ties in random_worlds(24, 60, 8):
            for first, second in [("a", "b"), ("c", "y")]:
                self.assertEqual(told(world.exchanged(first, second).exchanged(first, second)), told(world))


class ValueTest(RefusingTest):
    def test_equal_worlds(self):
        worlds = [World(1), World(2), World(3), World(2, [("a", 1, 2)]), World(2, [("b", 1, 2)]),
                  World(3, [("a", 1, 2)]), World(3, [("a", 1, 3)]), World(3, [("a", 1, 2), ("b", 1, 2)])]
        for at, world in enumerate(worlds):
            for index, other in enumerate(worlds):
                self.assertIs(world == other, at == index)
                self.assertIs(world != other, at != index)
            self.assertTrue(world == World.read(world.text()))

    def test_equal_to_nothing_of_another_class(self):
        for world in [World(2), World(3, [("a", 1, 2)])]:
            values = [value for value in any_values() if not isinstance(value, World)]
            for value in values + [world.text(), repr(world), world.many, world.partings()]:
                self.assertIs(world == value, False)
                self.assertIs(value == world, False)
                self.assertIs(world != value, True)

    def test_what_is_passed_may_be_changed_behind_the_call(self):
        ties = [("a", 1, 2)]
        partings = {"a": (1, 1, 3)}
        cases = [2, 1]
        worlds = [World(3, ties), World.parted(3, partings), World.parted(3, partings).kept_to(cases)]
        texts = [world.text() for world in worlds]
        self.assertEqual([ties, partings, cases], [[("a", 1, 2)], {"a": (1, 1, 3)}, [2, 1]])
        ties.append(("b", 1, 2))
        partings["b"] = (1, 1, 1)
        partings["a"] = (1, 1, 1)
        cases.append(3)
        self.assertEqual([world.text() for world in worlds], texts)

    def test_what_is_returned_may_be_changed(self):
        world = World(3, [("a", 1, 2), ("b", 1, 3)])
        wanted = told(world)
        world.eyes().clear()
        world.eyes().append("z")
        world.partings().clear()
        world.partings()["a"] = (1, 1, 1)
        self.assertEqual(told(world), wanted)
        self.assertEqual([world.eyes().__class__, world.partings().__class__], [list, dict])
        passed = world.partings()
        other = World.parted(3, passed)
        passed["a"] = (1, 1, 1)
        self.assertEqual([told(world), told(other)], [wanted, wanted])
