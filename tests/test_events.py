"""Events: what circles know of them, and what is known by each."""

import random

from pooledeyes.chains import depth_of, links_of
from pooledeyes.circles import common, eye
from pooledeyes.circletexts import read_circle
from pooledeyes.errors import InvalidCase, InvalidNumber
from pooledeyes.events import around, is_known, is_settled, known, known_by_each
from pooledeyes.worlds import World
from tests.anyvalues import but_numbers
from tests.making import eyes_to, names_to
from tests.plainworlds import all_events, link_relations, plain_known, plain_relation
from tests.refusing import RefusingTest
from tests.test_chains import AB, road, small_worlds


def shuffled(source, event):
    """The cases of an event in another order, some of them several times, as a list or a tuple."""
    row = list(event) + [source.choice(event) for _ in range(2) if event]
    source.shuffle(row)
    return source.choice([list, tuple])(row)


def plain_rounds(many, links, event, rounds):
    """What is known by each of some relations in so many rounds."""
    for _ in range(rounds):
        event = tuple(case for case in range(1, many + 1)
                      if all(case in plain_known(many, link, event) for link in links))
    return event


class EventsTest(RefusingTest):
    def test_a_small_world(self):
        world = World(5, [("a", 1, 2), ("b", 2, 3), ("b", 4, 5)])
        a, b = eye("a"), eye("b")
        self.assertEqual([known(world, a, [1, 2, 4]), known(world, b, [4, 2, 1]), known(world, AB, (1, 2, 3, 4))],
                         [(1, 2, 4), (1,), (1, 2, 3)])
        self.assertEqual([around(world, a, [2, 4]), around(world, b, (4, 2)), around(world, AB, [3])],
                         [(1, 2, 4), (2, 3, 4, 5), (1, 2, 3)])
        self.assertIs(is_settled(world, a, [1, 2, 4]), True)
        self.assertIs(is_settled(world, b, [1, 2]), False)
        self.assertIs(is_settled(world, AB, (3, 2, 1)), True)
        self.assertEqual([is_known(world, a, [1, 2], 1), is_known(world, a, [1], 1), is_known(world, a, [1, 2], 3)],
                         [True, False, False])
        self.assertEqual([known_by_each(world, AB, [5, 4, 2, 1, 1], rounds) for rounds in range(4)],
                         [(1, 2, 4, 5), (1, 4, 5), (4, 5), (4, 5)])

    def test_by_name(self):
        world = World(3, [("a", 1, 2)])
        a = eye("a")
        self.assertIs(is_known(case=1, event=[2, 1], circle=a, world=world), True)
        self.assertEqual(known(event=[2, 3], circle=a, world=world), (3,))
        self.assertEqual(around(event=[2, 3], circle=a, world=world), (1, 2, 3))
        self.assertIs(is_settled(event=[2, 3], circle=a, world=world), False)
        self.assertEqual(known_by_each(rounds=1, event=[2, 3], circle=a, world=world), (3,))

    def test_the_empty_event_and_all_cases(self):
        for world, ties, circle in small_worlds(71, 30, 6):
            everything = tuple(range(1, world.many + 1))
            for event in [(), everything]:
                for passed in [event, list(event)[::-1]]:
                    self.assertEqual([known(world, circle, passed), around(world, circle, passed)], [event, event])
                    self.assertIs(is_settled(world, circle, passed), True)
                    for rounds in [0, 1, 100]:
                        self.assertEqual(known_by_each(world, circle, passed, rounds), event)
                    self.assertIs(is_known(world, circle, passed, 1), event == everything)

    def test_all_events(self):
        source = random.Random(72)
        for world, ties, circle in small_worlds(73, 30, 5):
            relation = plain_relation(world.many, ties, circle)
            cases = range(1, world.many + 1)
            for event in all_events(world.many):
                passed = shuffled(source, event)
                kept = list(passed)
                wanted = plain_known(world.many, relation, event)
                self.assertEqual(known(world, circle, passed), wanted)
                self.assertEqual([case for case in cases if is_known(world, circle, passed, case)], list(wanted))
                self.assertEqual(around(world, circle, passed), tuple(
                    v for v in cases if any((u, v) in relation for u in event)))
                self.assertIs(is_settled(world, circle, passed), wanted == event)
                self.assertIs(is_known(world, circle, passed, 1), 1 in wanted)
                self.assertEqual(list(passed), kept)

    def test_around_is_the_least_settled_event(self):
        for world, ties, circle in small_worlds(74, 15, 4):
            events = all_events(world.many)
            settled = [event for event in events if is_settled(world, circle, event)]
            for event in events:
                found = around(world, circle, event)
                self.assertIn(found, settled)
                self.assertTrue(set(event) <= set(found))
                self.assertEqual([one for one in settled if set(event) <= set(one) and not set(found) <= set(one)], [])

    def test_settled_for_a_common_is_settled_for_each_part(self):
        for world, ties, circle in small_worlds(75, 40, 6):
            for event in all_events(world.many):
                self.assertIs(is_settled(world, circle, event),
                              all(is_settled(world, link, event) for link in links_of(circle)))

    def test_known_by_each_round_for_round(self):
        source = random.Random(76)
        for world, ties, circle in small_worlds(77, 30, 5):
            links = link_relations(world.many, ties, circle)
            for event in all_events(world.many):
                for rounds in range(5):
                    wanted = plain_rounds(world.many, links, event, rounds)
                    self.assertEqual(known_by_each(world, circle, shuffled(source, event), rounds), wanted)

    def test_as_many_rounds_as_the_depth(self):
        depths = []
        for world, ties, circle in small_worlds(78, 40, 7):
            depth = depth_of(world, circle)
            events = all_events(world.many)
            for rounds in [depth, depth + 1, 100]:
                for event in events:
                    self.assertEqual(known_by_each(world, circle, event, rounds), known(world, circle, event))
            if depth > 0:
                self.assertTrue(any(known_by_each(world, circle, event, depth - 1) != known(world, circle, event)
                                    for event in events))
            depths.append(depth)
        self.assertGreater(max(depths), 2)

    def test_one_case(self):
        for event, wanted in [([], ()), ([1], (1,)), ((1, 1), (1,))]:
            self.assertEqual([known(World(1), AB, event), around(World(1), AB, event)], [wanted, wanted])
            self.assertEqual(known_by_each(World(1), AB, event, 100), wanted)
            self.assertIs(is_settled(World(1), AB, event), True)

    def test_eyes_that_tell_all_apart(self):
        for event in all_events(5):
            for circle in [eye("z"), read_circle("a & z"), read_circle("y | z")]:
                world = World(5, [("a", 1, 2)])
                self.assertEqual([known(world, circle, event), around(world, circle, event)], [event, event])
                self.assertEqual([known_by_each(world, circle, event, rounds) for rounds in [0, 1, 100]], [event] * 3)
                self.assertIs(is_settled(world, circle, event), True)

    def test_long_roads(self):
        world = road(2400)
        event = list(range(1, 2400))
        self.assertEqual([known(world, AB, event), around(world, AB, [1200])], [(), tuple(range(1, 2401))])
        for rounds in [0, 1, 2, 57, 100]:
            self.assertEqual(known_by_each(world, AB, event, rounds), tuple(range(1, 2400 - rounds)))
        self.assertIs(is_settled(world, AB, event), False)
        self.assertIs(is_known(world, eye("a"), event, 2398), True)
        self.assertIs(is_known(world, eye("a"), event, 2399), False)
        short = road(101)
        self.assertEqual([known_by_each(short, AB, list(range(1, 101)), rounds) for rounds in [99, 100]], [(1,), ()])

    def test_great_circles_and_worlds(self):
        names = names_to(60)
        world = World(2400, [(names[case % 60], case, case + 1) for case in range(1, 2400)])
        wide = common(*eyes_to(60))
        self.assertEqual(known_by_each(world, wide, list(range(1, 2400)), 100), tuple(range(1, 2300)))
        self.assertEqual(known(world, wide, list(range(2, 2401))), ())
        self.assertIs(is_settled(world, wide, tuple(range(1, 2401))), True)


class RefusedTest(RefusingTest):
    def test_wrong_cases_in_events(self):
        world = World(3, [("a", 1, 2)])
        for value in but_numbers(1, 3):
            for event in [[value], (3, 1, 3, value, None), [2, value, 0, 4], (value, value)]:
                for circle in [eye("a"), AB]:
                    told = {"value": value}
                    self.refused(InvalidCase, told, is_known, world, circle, event, 1)
                    self.refused(InvalidCase, told, is_known, world, circle, event, None)
                    self.refused(InvalidCase, told, known, world, circle, event)
                    self.refused(InvalidCase, told, around, world, circle, event)
                    self.refused(InvalidCase, told, is_settled, world, circle, event)
                    for rounds in [0, 1, 101, -1, None, True]:
                        self.refused(InvalidCase, told, known_by_each, world, circle, event, rounds)

    def test_wrong_cases_at_which_it_is_asked(self):
        world = World(3, [("a", 1, 2)])
        for value in but_numbers(1, 3):
            for event in [[], [1, 2], (3, 3)]:
                self.refused(InvalidCase, {"value": value}, is_known, world, AB, event, value)
                self.refused(InvalidCase, {"value": value}, is_known, case=value, event=event, circle=AB, world=world)

    def test_wrong_rounds(self):
        world = World(3, [("a", 1, 2)])
        for value in but_numbers(0, 100):
            for event in [[], [1, 2], (3, 3)]:
                self.refused(InvalidNumber, {"value": value}, known_by_each, world, AB, event, value)
        self.assertEqual([known_by_each(world, AB, [1, 3], rounds) for rounds in [0, 100]], [(1, 3), (3,)])
