"""Chains, walls and the depth of a circle in a world."""

import itertools
import random

from pooledeyes.chains import chain_between, depth_of, is_chain, links_of, lot_around, wall_between, wall_stands
from pooledeyes.circles import common, eye, pool
from pooledeyes.circletexts import read_circle
from pooledeyes.errors import InvalidCase
from pooledeyes.partings import apart, parting_of, together
from pooledeyes.worlds import World
from tests.anyvalues import any_values, but_numbers, is_plain_number
from tests.making import eyes_to, names_to
from tests.plainworlds import (all_events, link_relations, plain_distances, plain_least_chain, plain_relation,
                               random_circle, random_worlds)
from tests.refusing import RefusingTest

AB = read_circle("a | b")


def road(many):
    """The world of so many cases in which a and b in turn take neighbours for alike."""
    return World(many, [("ba"[case % 2], case, case + 1) for case in range(1, many)])


def small_worlds(seed, count, most):
    """Triples of a world, its ties and a circle."""
    source = random.Random(seed)
    texts = ["a", "a | b", "a | b | c", "a & b", "(a & b) | c | (a & d)", "(a | b) & (c | d)",
             "a | (b & (c | d)) | long"]
    found = []
    for world, ties in random_worlds(seed, count, most):
        found.append((world, ties, read_circle(source.choice(texts))))
        found.append((world, ties, random_circle(source, 7)))
    return found


def pairs_of(world):
    """All pairs of cases of a world."""
    return itertools.product(range(1, world.many + 1), repeat=2)


class LinksTest(RefusingTest):
    def test_links(self):
        for text, wanted in [("a", ["a"]), ("a & b", ["a & b"]), ("a | b", ["a", "b"]),
                             ("c | (a & b) | a", ["c", "a & b", "a"]), ("a & (b | c)", ["a & (b | c)"])]:
            for links in [links_of(read_circle(text)), links_of(circle=read_circle(text))]:
                self.assertEqual([str(link) for link in links], wanted)

    def test_returned_lists_are_new(self):
        for circle in [eye("a"), AB]:
            wanted = links_of(circle)
            links_of(circle).clear()
            links_of(circle).append(eye("z"))
            self.assertEqual(links_of(circle), wanted)
        self.assertEqual(len(AB.parts()), 2)


class ChainBetweenTest(RefusingTest):
    def test_the_example(self):
        world = World(5, [("a", 1, 2), ("b", 2, 3), ("a", 3, 4)])
        self.assertEqual(chain_between(world, AB, 1, 4), ((1, 2, 0), (2, 3, 1), (3, 4, 0)))
        self.assertEqual(chain_between(other=1, one=4, circle=AB, world=world), ((4, 3, 0), (3, 2, 1), (2, 1, 0)))
        self.assertIs(chain_between(world, AB, 5, 1), None)
        self.assertEqual(chain_between(world, AB, 5, 5), ())

    def test_the_fewest_steps(self):
        world = World(4, [("a", 1, 2), ("b", 2, 3), ("a", 3, 4), ("c", 1, 4)])
        self.assertEqual(chain_between(world, read_circle("a | b | c"), 1, 4), ((1, 4, 2),))
        self.assertEqual(chain_between(world, read_circle("a | b"), 1, 4), ((1, 2, 0), (2, 3, 1), (3, 4, 0)))

    def test_the_least_cases(self):
        world = World(5, [("a", 1, 3), ("b", 1, 2), ("a", 2, 5), ("b", 3, 5), ("a", 1, 4), ("b", 4, 5)])
        self.assertEqual(chain_between(world, AB, 1, 5), ((1, 2, 1), (2, 5, 0)))
        self.assertEqual(chain_between(world, AB, 5, 1), ((5, 2, 0), (2, 1, 1)))

    def test_the_least_links(self):
        world = World(2, [("b", 1, 2), ("c", 1, 2)])
        self.assertEqual(chain_between(world, read_circle("a | b | c"), 1, 2), ((1, 2, 1),))
        self.assertEqual(chain_between(world, read_circle("c | b | a"), 1, 2), ((1, 2, 0),))

    def test_no_commons_have_one_link(self):
        world = World(3, [("a", 1, 2), ("b", 1, 2), ("b", 2, 3)])
        for text in ["a", "a & b", "a & (b | c)"]:
            self.assertEqual(chain_between(world, read_circle(text), 2, 1), ((2, 1, 0),))
            self.assertIs(chain_between(world, read_circle(text), 2, 3), None)

    def test_among_all_rows_of_cases(self):
        for world, ties, circle in small_worlds(61, 60, 5):
            links = link_relations(world.many, ties, circle)
            for one, other in pairs_of(world):
                self.assertEqual(chain_between(world, circle, one, other),
                                 plain_least_chain(world.many, links, one, other))

    def test_a_chain_or_a_wall(self):
        for world, ties, circle in small_worlds(62, 50, 9):
            for one, other in pairs_of(world):
                chain, lot = chain_between(world, circle, one, other), wall_between(world, circle, one, other)
                self.assertIs(chain is None, not world.alike(circle, one, other))
                self.assertIs(chain is None, lot is not None)
                if chain is None:
                    self.assertTrue(wall_stands(world, circle, lot) and one in lot and other not in lot)
                else:
                    self.assertTrue(is_chain(world, circle, one, other, chain))

    def test_long_roads(self):
        world = road(2400)
        wanted = tuple((case, case + 1, (case + 1) % 2) for case in range(1, 2400))
        self.assertEqual(chain_between(world, AB, 1, 2400), wanted)
        back = tuple((v, u, k) for u, v, k in reversed(wanted))
        self.assertEqual(chain_between(world, AB, 2400, 1), back)
        self.assertTrue(is_chain(world, AB, 1, 2400, wanted))
        self.assertFalse(is_chain(world, AB, 1, 2400, wanted[:-1]))
        self.assertEqual(chain_between(world, eye("a"), 1, 2), ((1, 2, 0),))
        self.assertIs(chain_between(world, read_circle("a & b"), 1, 2), None)

    def test_great_circles_and_worlds(self):
        names = names_to(60)
        wide = common(*eyes_to(60))
        world = World(2400, [(names[case % 60], case, case + 1) for case in range(1, 2400)])
        chain = chain_between(world, wide, 2400, 1)
        self.assertEqual(chain, tuple((case + 1, case, case % 60) for case in range(2399, 0, -1)))
        world = World.parted(2400, {name: together(2400) for name in names})
        self.assertEqual(chain_between(world, wide, 5, 2400), ((5, 2400, 0),))
        source = random.Random(63)
        pairs = {name: [(source.randint(1, 2400), source.randint(1, 2400)) for _ in range(300)] for name in names}
        world = World.parted(2400, {name: parting_of(2400, pairs[name]) for name in names})
        chain = chain_between(world, wide, 1, 2400)
        self.assertTrue(is_chain(world, wide, 1, 2400, chain))
        self.assertLessEqual(len(chain), depth_of(world, wide))

    def test_wrong_cases(self):
        world = road(3)
        for value in but_numbers(1, 3):
            told = {"value": value}
            for function, more in [(chain_between, []), (wall_between, []), (is_chain, [()]), (is_chain, [None])]:
                for other in [1, 0, None, 4]:
                    self.refused(InvalidCase, told, function, world, AB, value, other, *more)
                self.refused(InvalidCase, told, function, world, AB, 3, value, *more)
                self.refused(InvalidCase, told, function, world, eye("z"), 3, value, *more)
            self.refused(InvalidCase, told, chain_between, other=value, one=2, circle=AB, world=world)
            self.refused(InvalidCase, told, is_chain, value=(), other=value, one=2, circle=AB, world=world)
            self.refused(InvalidCase, told, wall_between, other=value, one=2, circle=AB, world=world)
            self.refused(InvalidCase, told, lot_around, world, AB, value)
            self.refused(InvalidCase, told, lot_around, case=value, circle=AB, world=world)


class IsChainTest(RefusingTest):
    def setUp(self):
        self.world = World(5, [("a", 1, 2), ("b", 2, 3), ("a", 3, 4)])

    def judged(self, one, other, value):
        """What is_chain says of a value, by place and by name, once and again."""
        said = [is_chain(self.world, AB, one, other, value), is_chain(self.world, AB, one, other, value),
                is_chain(value=value, other=other, one=one, circle=AB, world=self.world)]
        self.assertEqual(said, [said[0]] * 3)
        self.assertIsInstance(said[0], bool)
        return said[0]

    def test_chains(self):
        for one, other, value in [
            (1, 1, ()), (5, 5, ()), (1, 2, ((1, 2, 0),)), (2, 1, ((2, 1, 0),)), (3, 2, ((3, 2, 1),)),
            (1, 4, ((1, 2, 0), (2, 3, 1), (3, 4, 0))), (1, 1, ((1, 1, 0),)), (5, 5, ((5, 5, 1), (5, 5, 0))),
            (1, 1, ((1, 2, 0), (2, 1, 0))), (1, 2, ((1, 1, 1), (1, 2, 0), (2, 2, 0))),
            (1, 3, ((1, 2, 0), (2, 1, 0), (1, 2, 0), (2, 3, 1), (3, 4, 0), (4, 3, 0))),
        ]:
            self.assertIs(self.judged(one, other, value), True, value)

    def test_no_chains(self):
        for one, other, value in [
            (1, 2, ()), (1, 2, ((1, 2, 1),)), (1, 2, ((2, 1, 0),)), (1, 3, ((1, 2, 0),)), (3, 2, ((1, 2, 0),)),
            (1, 3, ((1, 3, 0),)), (1, 3, ((1, 2, 0), (3, 2, 1))), (1, 3, ((2, 3, 1), (1, 2, 0))),
            (1, 3, ((1, 2, 0), (3, 3, 1))), (1, 1, ((2, 2, 0),)), (1, 1, ((1, 1, 2),)), (1, 1, ((1, 1, -1),)),
            (1, 2, ((1, 2, 0, 0),)), (1, 2, ((1, 2),)), (1, 2, (1, 2, 0)), (1, 2, [(1, 2, 0)]), (1, 2, ([1, 2, 0],)),
            (1, 2, ((1, 2, False),)), (1, 2, ((True, 2, 0),)), (1, 1, ((1, True, 0),)), (1, 2, ((1, 2, None),)),
            (1, 2, (("1", 2, 0),)), (1, 2, ((1, 2, "a"),)), (1, 2, ((1, 2, 0), None)), (1, 2, ((1, 2, 0), ())),
            (5, 5, ((5, 6, 0), (6, 5, 0))), (1, 1, ((1, 0, 0), (0, 1, 0))), (2, 3, ((2, 3, True),)),
            (1, 1, []), (1, 1, None), (1, 2, (((1, 2, 0),),)), (1, 2, ((1, 2, 10 ** 8),)), (1, 1, ((-5, -5, 0),)),
        ]:
            self.assertIs(self.judged(one, other, value), False, value)

    def test_values_of_all_kinds(self):
        for value in any_values():
            self.assertIs(self.judged(1, 1, value), value == ())
            self.assertIs(self.judged(1, 2, value), False)
            self.assertIs(self.judged(1, 2, (value,)), False)
            self.assertIs(self.judged(1, 2, ((1, 2, 0), value)), False)
            if not is_plain_number(value, 0, 2):
                for step in [(value, 2, 0), (1, value, 0), (1, 2, value)]:
                    self.assertIs(self.judged(1, 2, (step,)), False)
                    self.assertIs(self.judged(1, 2, ((1, 2, 0), (2, 1, 0), step)), False)

    def test_all_short_rows(self):
        steps = [(u, v, k) for u in range(1, 4) for v in range(1, 4) for k in (0, 1)]
        pairs = [(u, u, k) for u in range(1, 4) for k in (0, 1)] + [(1, 2, 0), (2, 1, 0), (2, 3, 1), (3, 2, 1)]
        for first, second in itertools.product(steps, repeat=2):
            right = first in pairs and second in pairs and first[0] == 1 and first[1] == second[0] and second[1] == 3
            self.assertIs(is_chain(self.world, AB, 1, 3, (first, second)), right)

    def test_other_circles(self):
        for text, value, right in [("a", ((1, 2, 0),), True), ("a", ((1, 2, 1),), False), ("b | a", ((1, 2, 1),), True),
                                   ("b | a", ((1, 2, 0),), False), ("a & c", ((1, 2, 0),), False)]:
            self.assertIs(is_chain(self.world, read_circle(text), 1, 2, value), right)


class WallsTest(RefusingTest):
    def test_lots(self):
        world = World(5, [("a", 4, 2), ("b", 2, 3)])
        for text, case, lot in [("a", 2, (2, 4)), ("a", 4, (2, 4)), ("a", 1, (1,)), ("a | b", 3, (2, 3, 4)),
                                ("a & b", 2, (2,)), ("z", 5, (5,))]:
            self.assertEqual(lot_around(world, read_circle(text), case), lot)
            self.assertEqual(lot_around(case=case, circle=read_circle(text), world=world), lot)

    def test_random_lots_and_walls_between(self):
        for world, ties, circle in small_worlds(64, 60, 8):
            relation = plain_relation(world.many, ties, circle)
            for one, other in pairs_of(world):
                lot = tuple(case for case in range(1, world.many + 1) if (one, case) in relation)
                self.assertEqual(lot_around(world, circle, one), lot)
                self.assertEqual(wall_between(world, circle, one, other), None if other in lot else lot)

    def test_walls_among_all_events(self):
        for world, ties, circle in small_worlds(65, 40, 6):
            links = link_relations(world.many, ties, circle)
            crossing = set.union(*links)
            for event in all_events(world.many):
                wanted = len(event) > 0 and not any((u in event) != (v in event) for u, v in crossing)
                self.assertIs(wall_stands(world, circle, event), wanted)
                self.assertIs(wall_stands(value=event, circle=circle, world=world), wanted)
                self.assertIs(wall_stands(world, circle, list(event)), False)

    def test_no_walls(self):
        world = World(4, [("a", 1, 2)])
        self.assertIs(wall_stands(world, eye("a"), (1, 2, 3)), True)
        for value in [(), (1,), (2, 1), (1, 2, 2), (1, 1, 2), (3, 1, 2), [1, 2], (0, 3), (3, 5), (1, 2, 5), (True, 2),
                      (1, 2, True), (3, "4"), (3, None), (3, (4,)), ((1, 2),), (-1, 3), (1, 2, False), (3, 3), (4, 3)]:
            self.assertIs(wall_stands(world, eye("a"), value), False, value)

    def test_values_of_all_kinds(self):
        world = World(3)
        for value in any_values():
            self.assertIs(wall_stands(world, AB, value), value == (1, 2))
            row = (value,)
            self.assertIs(wall_stands(world, AB, row), value == 1 and value is not True)
            self.assertIs(wall_stands(world, AB, (1, value)), False)

    def test_great_walls(self):
        world = road(2400)
        everything = tuple(range(1, 2401))
        self.assertIs(wall_stands(world, AB, everything), True)
        self.assertIs(wall_stands(world, AB, everything[:-1]), False)
        self.assertEqual(lot_around(world, AB, 1200), everything)
        self.assertIs(wall_between(world, AB, 1, 2400), None)
        self.assertEqual(wall_between(world, eye("a"), 1, 2400), (1, 2))
        self.assertIs(wall_stands(World(1), AB, (1,)), True)


class DepthTest(RefusingTest):
    def test_small_depths(self):
        world = World(6, [("a", 1, 2), ("b", 2, 3), ("a", 3, 4), ("b", 5, 6)])
        for text, depth in [("a | b", 3), ("a", 1), ("b", 1), ("c", 0), ("a & b", 0), ("a | c", 1), ("a & (b | c)", 0)]:
            self.assertEqual(depth_of(world, read_circle(text)), depth)
            self.assertEqual(depth_of(circle=read_circle(text), world=world), depth)
        self.assertEqual(depth_of(World(1), AB), 0)
        self.assertEqual(depth_of(World(5), AB), 0)

    def test_the_longest_least_chain(self):
        for world, ties, circle in small_worlds(66, 120, 9):
            links = link_relations(world.many, ties, circle)
            depth = depth_of(world, circle)
            self.assertEqual(depth, max(plain_distances(world.many, links).values()))
            chains = [chain_between(world, circle, one, other) for one, other in pairs_of(world)]
            self.assertEqual(depth, max(len(chain) for chain in chains if chain is not None))
            self.assertIs(depth == 0, world.parting(circle) == apart(world.many))

    def test_long_roads(self):
        for many in [2, 3, 100, 1001]:
            self.assertEqual(depth_of(road(many), AB), many - 1)
        self.assertEqual(depth_of(road(2400), AB), 2399)
        self.assertEqual(depth_of(road(2400), eye("a")), 1)

    def test_rings(self):
        for many in [4, 10, 400]:
            ring = road(many).tied("b", many, 1)
            self.assertEqual(depth_of(ring, AB), many // 2)

    def test_great_circles_and_worlds(self):
        names = names_to(60)
        wide = common(*eyes_to(60))
        self.assertEqual(depth_of(World.parted(2400, {name: together(2400) for name in names}), wide), 1)
        self.assertEqual(depth_of(World(2400), wide), 0)
        self.assertEqual(depth_of(World.parted(2400, {"a": together(2400)}), pool(*eyes_to(60))), 0)
        star = World(2400, [(names[case % 60], 1, case) for case in range(2, 2401)])
        self.assertEqual(depth_of(star, wide), 2)
