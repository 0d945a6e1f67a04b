"""What worlds refuse: each error by its class and value, the one listed first first."""

from pooledeyes.errors import InvalidCase, InvalidName, InvalidNumber, InvalidParting, InvalidTie, TooMany
from pooledeyes.circletexts import read_circle
from pooledeyes.partings import apart, together
from pooledeyes.worlds import World
from tests.anyvalues import any_values, but_names, but_numbers
from tests.refusing import RefusingTest


class WorldsRefusedTest(RefusingTest):
    def setUp(self):
        self.world = World(3, [("a", 1, 2), ("b", 2, 3)])
        self.text = self.world.text()

    def tearDown(self):
        self.assertEqual(self.world.text(), self.text)


class FromTiesTest(WorldsRefusedTest):
    def test_wrong_numbers(self):
        for value in but_numbers(1, 2400):
            for ties in [[], [("a", 1, 1)], None, [None], "a"]:
                self.refused(InvalidNumber, {"value": value}, World, value, ties)
            self.refused(InvalidNumber, {"value": value}, World, many=value)

    def test_wrong_rows(self):
        for value in any_values():
            if not isinstance(value, (list, tuple)):
                self.refused(InvalidTie, {"at": -1}, World, 3, value)
        self.refused(InvalidTie, {"at": -1}, World, many=3, ties={("a", 1, 2): True})

    def test_wrong_ties(self):
        wrong = [["a", 1, 2], ("a", 1), ("a", 1, 2, 3), ("a", 1, 4), ("a", 0, 1), ("a", 1, 0), ("a", -1, 1),
                 ("a", 4, 1), ("a", True, 1), ("a", 1, True), ("a", 1, "2"), ("a", 1, None), ("a", (1,), 2), (1, 2),
                 (1, 2, 3),
                 (1, 2, "a"), (None, 1, 2), (("a",), 1, 2), ("a", [1], 2), "a12", "abc", ("a", 1, 10 ** 9)]
        wrong = wrong + [(name, 1, 2) for name in but_names()]
        for value in any_values() + wrong:
            for ahead, behind in [([], []), ([("a", 1, 2)], [None]), ([("a", 1, 1), ("b", 3, 1)], [("A", 0, 0)])]:
                told = {"at": len(ahead)}
                self.refused(InvalidTie, told, World, 3, ahead + [value] + behind)
                self.refused(InvalidTie, told, World, 3, tuple(ahead + [value] + behind))

    def test_cases_of_2400(self):
        self.assertEqual(World(2400, [("a", 1, 2400)]).eyes(), ["a"])
        self.refused(InvalidTie, {"at": 1}, World, 2400, [("a", 1, 2400), ("a", 1, 2401)])
        self.refused(InvalidTie, {"at": 0}, World, 1, [("a", 1, 2)])


class FromPartingsTest(WorldsRefusedTest):
    def test_wrong_numbers(self):
        for value in but_numbers(1, 2400):
            for partings in [{}, {"a": (1,)}, {"A": None}]:
                self.refused(InvalidNumber, {"value": value}, World.parted, value, partings)
            self.refused(InvalidNumber, {"value": value}, World.parted, partings={}, many=value)

    def test_wrong_names(self):
        for value in [None, True, 1, "", "A", "abcdefg", "a b", ("a",), (), ("a", ("b", 1)), b"a", " a"]:
            for ahead, behind in [({}, {}), ({"a": (1, 1, 1), "b": (1, 2, 3)}, {"B": None}), ({"a": None}, {1: 2})]:
                partings = {**ahead, value: (1, 1, 1), **behind}
                self.refused(InvalidName, {"value": value}, World.parted, 3, partings)

    def test_wrong_partings(self):
        wrong = any_values() + [(1, 1), (1, 1, 1, 1), [1, 1, 1], (1, 2, 4), (2, 2, 2), (True, 1, 1), (1, 1, True), (1,),
                                (1, 1, 2), apart(2400), "1 1 1"]
        for value in wrong:
            for ahead, behind in [({}, {}), ({"c": (1, 1, 1), "a": (1, 2, 3)}, {"aa": None, "ab": (1, 1, 1)})]:
                partings = {**ahead, "b": value, **behind}
                self.refused(InvalidParting, {"value": value}, World.parted, 3, partings)

    def test_partings_of_another_length(self):
        self.refused(InvalidParting, {"value": together(2399)}, World.parted, 2400, {"a": together(2399)})
        self.refused(InvalidParting, {"value": (1, 2)}, World.parted, 1, {"b": (1,), "a": (1, 2)})


class MethodsTest(WorldsRefusedTest):
    def test_tied(self):
        for value in but_names():
            for one, other in [(1, 2), (0, 1), (None, None)]:
                self.refused(InvalidName, {"value": value}, self.world.tied, value, one, other)
        for value in but_numbers(1, 3):
            for other in [1, 0, None, 4]:
                self.refused(InvalidCase, {"value": value}, self.world.tied, "a", value, other)
            self.refused(InvalidCase, {"value": value}, self.world.tied, "a", 3, value)
            self.refused(InvalidCase, {"value": value}, self.world.tied, other=value, one=3, name="zzzzzz")

    def test_alike(self):
        for circle in [read_circle("a"), read_circle("a | b"), read_circle("a & (b | c)")]:
            for value in but_numbers(1, 3):
                for other in [1, 0, None, 4]:
                    self.refused(InvalidCase, {"value": value}, self.world.alike, circle, value, other)
                self.refused(InvalidCase, {"value": value}, self.world.alike, circle, 2, value)
                self.refused(InvalidCase, {"value": value}, self.world.alike, other=value, one=3, circle=circle)

    def test_kept_to(self):
        self.refused(InvalidNumber, {"value": 0}, self.world.kept_to, [])
        self.refused(InvalidNumber, {"value": 0}, self.world.kept_to, cases=())
        for value in but_numbers(1, 3):
            for ahead, behind in [([], []), ([3, 1], [2]), ([2], [2, None, 9])]:
                self.refused(InvalidCase, {"value": value}, self.world.kept_to, ahead + [value] + behind)
                self.refused(InvalidCase, {"value": value}, self.world.kept_to, tuple(ahead + [value] + behind))

    def test_kept_to_a_case_twice(self):
        for cases, value in [([1, 1], 1), ([3, 2, 3, None], 3), ((1, 2, 3, 2, 1), 2), ([2, 4, 2], 4)]:
            self.refused(InvalidCase, {"value": value}, self.world.kept_to, cases)
        self.refused(InvalidCase, {"value": True}, self.world.kept_to, [1, True])

    def test_exchanged(self):
        for value in but_names():
            for other in ["a", "A", None, value]:
                self.refused(InvalidName, {"value": value}, self.world.exchanged, value, other)
            self.refused(InvalidName, {"value": value}, self.world.exchanged, "a", value)
            self.refused(InvalidName, {"value": value}, self.world.exchanged, second=value, first="zzzzzz")

    def test_beside(self):
        told = {"what": "cases", "most": 2400}
        great = World(2397, [("a", 1, 2397)])
        self.assertEqual([len(self.world + great), len(great + self.world)], [2400, 2400])
        for first, second in [(self.world, World(2398)), (World(2398), self.world), (World(2400), World(1)),
                              (World(1), World(2400)), (World(2400), World(2400)), (great + self.world, World(1))]:
            texts = [first.text(), second.text()]
            self.refused(TooMany, told, lambda: first + second)
            self.assertEqual([first.text(), second.text()], texts)

    def test_beside_takes_worlds_alone(self):
        for value in [None, 1, "a", [self.world], (1, 1)]:
            with self.assertRaises(TypeError):
                self.world + value
