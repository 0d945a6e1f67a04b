"""One question that is asked in several ways, and sights beside circles and plans."""

import random

from pooledeyes.betweens import circle_between
from pooledeyes.books import Book
from pooledeyes.circles import eye
from pooledeyes.descents import always_alike, descent_of, tells
from pooledeyes.errors import TooMany
from pooledeyes.frames import Frame
from pooledeyes.guards import Guard
from pooledeyes.keys import key_of
from pooledeyes.lots import brings, least_lots
from pooledeyes.musts import must_tell
from pooledeyes.papers import guard_paper, paper_for
from pooledeyes.sights import Sights
from pooledeyes.tables import derivation_of, table_tells
from tests.plain import plain_of
from tests.plainframes import plain_tells
from tests.plainplans import random_plan
from tests.plainworlds import random_circle, random_worlds
from tests.refusing import RefusingTest


class WaysTest(RefusingTest):
    def test_without_grants(self):
        source = random.Random(91)
        counts = {True: 0, False: 0}
        for _ in range(300):
            t, s = random_circle(source, 5), random_circle(source, 5)
            if source.random() < 0.3:
                t, s = t & s, random_circle(source, 2) | s
            wanted = plain_tells(plain_of(t), plain_of(s))
            counts[wanted] += 1
            try:
                frames = [Frame(t), Frame(t, rounds=3)]
            except TooMany:
                continue
            ways = [tells(t, s), always_alike(t, t & s), always_alike(s, s | t), key_of(t & s) == key_of(t),
                    descent_of(t, s) is not None, circle_between(t, s) is not None, must_tell(Book(), t, s),
                    table_tells(Book(), t, s), derivation_of(Book(), t, s) is not None,
                    not Guard(Book(), (t, s)).is_safe(), guard_paper(Guard(Book(), (t, s)))[0] == "broken",
                    paper_for(Book(), t, s)[0] == "told", least_lots(Book(), t, s) == [()], brings(Book(), (), t, s),
                    Guard(Book(), (t, s)).unsafe_lots() == [()], Guard(Book(), (t, s)).safe_lots() == []]
            ways += [frame.shows(s) for frame in frames]
            self.assertEqual(ways, [wanted] * len(ways), (str(t), str(s)))
        self.assertGreater(min(counts.values()), 50)

    def test_exchanged_eyes(self):
        source = random.Random(92)
        for world, _ in random_worlds(93, 40, 6):
            plan, circle = random_plan(source, 3, 2), random_circle(source, 4)
            swap = [("swaps", "a", "b")]
            self.assertEqual(plan.__class__(*swap).done(world), world.exchanged("a", "b"))
            self.assertEqual(plan.__class__(*swap).pulled(circle).size, key_of(circle).size)


class SightsTest(RefusingTest):
    def test_the_parting_of_each_circle_is_a_sight(self):
        source = random.Random(94)
        names = ["a", "b", "c", "d"]
        asked = 0
        for world, _ in random_worlds(95, 25, 6):
            try:
                sights = Sights(world, names)
            except TooMany:
                continue
            for _ in range(30):
                circle = random_circle(source, 6)
                if not set(circle.eyes()) <= set(names):
                    continue
                parting = world.parting(circle)
                self.assertIn(parting, sights)
                self.assertIn(parting, sights.partings())
                self.assertLessEqual(sights.least_size(parting), circle.size)
                self.assertLessEqual(sights.least_size(parting), key_of(circle).size)
                found = sights.circle_for(parting)
                self.assertEqual(world.parting(found), parting)
                self.assertEqual(found.size, sights.least_size(parting))
                self.assertLessEqual(set(found.eyes()), set(names))
                self.assertEqual([sights.inner(parting), sights.outer(parting)], [parting, parting])
                asked += 1
        self.assertGreater(asked, 150)

    def test_sights_behind_a_plan_are_sights_ahead(self):
        source = random.Random(96)
        asked = 0
        for world, _ in random_worlds(97, 80, 6):
            plan, rounds = random_plan(source, 3, 3), source.randint(0, 3)
            names = sorted(set(plan.eyes() + ["a"]))[:6]
            try:
                ahead = Sights(world, names)
            except TooMany:
                continue
            behind = Sights(plan.done(world, rounds=rounds), names)
            if set(plan.eyes()) <= set(names):
                self.assertLessEqual(set(behind.partings()), set(ahead.partings()))
                for name in names:
                    self.assertIn(plan.done(world, rounds=rounds).parting(eye(name)), ahead)
                asked += 1
        self.assertGreater(asked, 50)
