"""Stretches: laying circles between spots, distances, and the stretched world."""

import random

from pooledeyes.books import Book
from pooledeyes.circles import common, eye, pool
from pooledeyes.circletexts import read_circle
from pooledeyes.frames import laid_ties
from pooledeyes.partings import apart, join_of, is_parting, is_within, together
from pooledeyes.stretches import Stretch
from pooledeyes.worlds import World
from tests.making import eyes_to
from tests.plainframes import PlainStretch
from tests.plainworlds import parting_from, random_circle, random_ties
from tests.refusing import RefusingTest

NAMES = ["a", "b", "c", "d", "long", "sixsix"]


def doc_stretch():
    """The stretch of the document's example, with nothing laid."""
    return Stretch(World(3, [("a", 1, 2), ("b", 1, 3), ("c", 2, 3)]))


def random_lays(seed, count, size, most=40):
    """Yield so many random (ties, stretch, list of (circle, spots), plain stretch) with some circles laid."""
    source = random.Random(seed)
    for _ in range(count):
        many = source.randint(1, 5)
        ties = random_ties(source, many, NAMES, source.randint(2, 9))
        stretch, plain = Stretch(World(many, ties), NAMES), PlainStretch(many, ties, NAMES)
        laid = []
        for _ in range(12):
            circle = random_circle(source, size)
            one, other = source.randint(1, stretch.spots), source.randint(1, stretch.spots)
            cases = max([1] + [max(u, v) for _, u, v in laid_ties(circle, 1, 2, 3)])
            fits = stretch.spots + cases - 2 <= most
            if fits and is_within(stretch.distance(one, other), stretch.begun.parting(circle)):
                laid.append((circle, stretch.lay(circle, one, other)))
                plain.lay(circle, one, other)
        yield ties, stretch, laid, plain


class StretchTest(RefusingTest):
    def test_the_example(self):
        stretch = doc_stretch()
        spots = stretch.lay(read_circle("b | c"), 1, 2)
        self.assertEqual([spots, stretch.distance(1, 4), stretch.distance(4, 6), stretch.distance(3, 6)],
                         [(1, 2, 4, 5, 6), (1, 2, 1), (1, 1, 1), (1, 2, 2)])
        self.assertEqual(stretch.world().text(), "cases 6\na 1 1 3 4 5 6\nb 1 2 1 1 5 5\nc 1 2 2 4 4 2\n")
        self.assertEqual([len(stretch), stretch.spots, repr(stretch)], [6, 6, "Stretch(6 spots)"])

    def test_at_first(self):
        world = World(4, [("b", 1, 3), ("z", 2, 4)])
        for stretch in [Stretch(world), Stretch(world, ()), Stretch(world, []), Stretch(eyes=(), world=world)]:
            self.assertEqual([stretch.begun, stretch.spots, len(stretch), repr(stretch), stretch.eyes()],
                             [world, 4, 4, "Stretch(4 spots)", ["b", "z"]])
            self.assertEqual(stretch.world(), world)
            for one in range(1, 5):
                for other in range(1, 5):
                    wanted = World(4, [("q", one, other)]).parting(eye("q"))
                    self.assertEqual(stretch.distance(one, other), wanted)
                    self.assertEqual(stretch.distance(other=other, one=one), wanted)
        self.assertIs(bool(Stretch(World(1))), True)

    def test_eyes(self):
        world = World(2, [("m", 1, 2), ("c", 1, 1)])
        for given, wanted in [([], ["m"]), (["z", "a"], ["a", "m", "z"]), (("m", "c", "m", "c"), ["c", "m"]),
                              (["abcdef"], ["abcdef", "m"])]:
            stretch = Stretch(world, given)
            self.assertEqual(stretch.eyes(), wanted)
            stretch.eyes().append("y")
            self.assertEqual(stretch.eyes(), wanted)
        given = ["x"]
        stretch = Stretch(world, given)
        given.append("y")
        self.assertEqual(stretch.eyes(), ["m", "x"])
        self.assertEqual(Stretch(World(3)).eyes(), [])

    def test_an_eye_changes_nothing(self):
        stretch = doc_stretch()
        before = stretch.world()
        self.assertEqual(stretch.lay(eye("a"), 2, 1), (2, 1))
        self.assertEqual(stretch.lay(other=3, one=3, circle=eye("c")), (3, 3))
        self.assertEqual([stretch.spots, stretch.world()], [3, before])

    def test_a_common_of_three_parts(self):
        world = World(2, [("a", 1, 2)])
        stretch = Stretch(world, ["b", "c"])
        self.assertEqual(stretch.lay(read_circle("b | a | c"), 1, 2), (1, 2, 3, 4, 5, 6, 7))
        # The labels are b, a, c, b, a, c: only a takes the two cases for alike.
        self.assertEqual([stretch.distance(1, spot) for spot in range(1, 8)],
                         [(1, 2), (1, 1), (1, 2), (1, 1), (1, 1), (1, 1), (1, 1)])
        self.assertEqual([stretch.distance(spot, 2) for spot in range(1, 8)],
                         [(1, 1), (1, 2), (1, 1), (1, 1), (1, 1), (1, 1), (1, 2)])
        self.assertEqual([stretch.distance(3, spot) for spot in range(4, 8)], [(1, 1), (1, 1), (1, 1), (1, 1)])
        self.assertEqual([stretch.distance(4, spot) for spot in range(5, 8)], [(1, 2), (1, 2), (1, 1)])
        self.assertEqual(stretch.world().text(), "cases 7\na 1 1 1 1 1 1 1\nb 1 2 1 4 4 4 2\nc 1 2 1 4 4 4 2\n")

    def test_the_second_way(self):
        laid_circles = 0
        for ties, stretch, laid, plain in random_lays(371, 60, 6):
            laid_circles += len(laid)
            self.assertEqual(stretch.spots, plain.spots)
            for one in range(1, plain.spots + 1):
                for other in range(1, plain.spots + 1):
                    self.assertEqual(stretch.distance(one, other), parting_from(plain.many, plain.far[one, other]))
            world = stretch.world()
            self.assertEqual(world.many, plain.spots)
            for name in NAMES:
                self.assertEqual(world.parting(eye(name)), parting_from(plain.spots, plain.relation(name)))
            self.assertLessEqual(set(world.eyes()), set(NAMES))
        self.assertGreater(laid_circles, 200)

    def test_distances(self):
        for ties, stretch, laid, plain in random_lays(372, 20, 5, 20):
            many = stretch.begun.many
            spots = range(1, stretch.spots + 1)
            for x in spots:
                self.assertEqual(stretch.distance(x, x), apart(many))
                for y in spots:
                    self.assertTrue(is_parting(stretch.distance(x, y)))
                    self.assertEqual(stretch.distance(x, y), stretch.distance(y, x))
                    for z in spots:
                        both = join_of(stretch.distance(x, y), stretch.distance(y, z))
                        self.assertTrue(is_within(stretch.distance(x, z), both))

    def test_alike_cases_stay_as_they_were(self):
        source = random.Random(373)
        for ties, stretch, laid, plain in random_lays(374, 60, 6):
            many, world = stretch.begun.many, stretch.world()
            circles = [random_circle(source, 8) for _ in range(15)] + [circle for circle, _ in laid]
            for circle in circles:
                for u in range(1, many + 1):
                    for v in range(1, many + 1):
                        self.assertIs(world.alike(circle, u, v), stretch.begun.alike(circle, u, v))
            # Spots are alike to a circle exactly if their distance is within its parting.
            for circle in circles[:5]:
                parting = stretch.begun.parting(circle)
                for u in range(1, world.many + 1):
                    for v in range(1, u):
                        if world.alike(circle, u, v):
                            self.assertTrue(is_within(stretch.distance(u, v), parting))

    def test_the_frame_holds_between_the_spots(self):
        for ties, stretch, laid, plain in random_lays(375, 60, 6):
            world = stretch.world()
            for circle, spots in laid:
                self.assertIs(type(spots), tuple)
                for name, u, v in laid_ties(circle, 1, 2, 3):
                    self.assertTrue(world.alike(eye(name), spots[u - 1], spots[v - 1]))
                self.assertTrue(world.alike(circle, spots[0], spots[1]))

    def test_returned_spots(self):
        source = random.Random(376)
        for _ in range(60):
            stretch = Stretch(World.parted(2, {name: together(2) for name in NAMES}))
            circle = random_circle(source, 6)
            for one, other in [(1, 2), (2, 1), (1, 1)]:
                ahead = stretch.spots
                ties = laid_ties(circle, one, other, ahead + 1)
                new = {spot for _, u, v in ties for spot in (u, v)} - {one, other}
                if ahead + len(new) <= 120:
                    self.assertEqual(stretch.lay(circle, one, other), (one, other, *sorted(new)))
                    self.assertEqual(stretch.spots, ahead + len(new))
                    self.assertEqual(len(stretch), stretch.spots)
                    self.assertEqual(repr(stretch), f"Stretch({stretch.spots} spots)")
                    for name, u, v in ties:
                        self.assertTrue(stretch.world().alike(eye(name), u, v))

    def test_grants_that_are_kept(self):
        source = random.Random(377)
        kept = 0
        for ties, stretch, laid, plain in random_lays(378, 60, 6):
            world = stretch.world()
            for _ in range(15):
                book = Book((random_circle(source, 5), source.choice(NAMES)))
                if book.kept_by(stretch.begun):
                    kept += 1
                    self.assertTrue(book.kept_by(world))
        self.assertGreater(kept, 200)

    def test_a_lay_between_a_spot_and_itself(self):
        stretch = Stretch(World(1), ["a", "b"])
        self.assertEqual(stretch.lay(read_circle("a | b"), 1, 1), (1, 1, 2, 3, 4))
        # With one case no distance tells anything apart.
        self.assertEqual(stretch.world(), World.parted(4, {"a": together(4), "b": together(4)}))
        stretch = doc_stretch()
        self.assertEqual(stretch.lay(read_circle("a | b"), 3, 3), (3, 3, 4, 5, 6))
        self.assertEqual([stretch.distance(3, spot) for spot in (4, 5, 6)], [(1, 1, 3), (1, 1, 1), (1, 2, 1)])
        self.assertEqual([stretch.distance(4, 5), stretch.distance(5, 6), stretch.distance(4, 6)],
                         [(1, 2, 1), (1, 1, 3), (1, 1, 1)])
        self.assertEqual(stretch.world().text(), "cases 6\na 1 1 3 3 5 5\nb 1 2 1 4 4 1\nc 1 2 2 4 5 6\n")
        self.assertEqual(stretch.lay(read_circle("a & (b | c)"), 5, 5), (5, 5, 7, 8, 9))

    def test_begun_and_other_eyes(self):
        world = World(3, [("a", 1, 2)])
        stretch = Stretch(world, ["b"])
        stretch.lay(read_circle("a | b"), 1, 2)
        self.assertEqual([stretch.begun, stretch.begun.many, stretch.spots], [world, 3, 6])
        self.assertEqual(stretch.world().parting(eye("z")), apart(6))
        self.assertLessEqual(set(stretch.world().eyes()), {"a", "b"})

    def test_twins(self):
        stretch = doc_stretch()
        stretch.lay(read_circle("b | c"), 1, 2)
        twin = stretch.twin()
        before = stretch.world()
        self.assertIsInstance(twin, Stretch)
        self.assertEqual([twin.begun, twin.spots, twin.eyes(), twin.world()],
                         [stretch.begun, 6, stretch.eyes(), before])
        for u in range(1, 7):
            for v in range(1, 7):
                self.assertEqual(twin.distance(u, v), stretch.distance(u, v))
        self.assertEqual(twin.lay(read_circle("a | b"), 4, 4), (4, 4, 7, 8, 9))
        self.assertEqual([stretch.spots, stretch.world(), twin.spots], [6, before, 9])
        self.assertEqual(stretch.lay(read_circle("a | c"), 4, 4), (4, 4, 7, 8, 9))
        self.assertNotEqual(stretch.world(), twin.world())
        given = Stretch(World(2), ["x", "y"]).twin()
        self.assertEqual(given.eyes(), ["x", "y"])
        self.assertEqual(given.lay(read_circle("x | y"), 1, 1), (1, 1, 3, 4, 5))

    def test_worlds_are_as_they_are_at_the_moment(self):
        stretch = doc_stretch()
        before = stretch.world()
        stretch.lay(read_circle("b | c"), 1, 2)
        self.assertEqual([before.many, stretch.world().many], [3, 6])

    def test_many_cases(self):
        world = World(2400, [("a", case, case + 1) for case in range(1, 2400)])
        stretch = Stretch(world, ["b"])
        self.assertEqual([stretch.spots, stretch.world(), repr(stretch)], [2400, world, "Stretch(2400 spots)"])
        self.assertEqual(stretch.distance(2400, 2), (1, 2) + tuple(range(3, 2400)) + (2,))

    def test_great_circles(self):
        stretch = Stretch(World(1), [str(one) for one in eyes_to(60)])
        self.assertEqual(stretch.lay(pool(*eyes_to(60)), 1, 1), (1, 1))
        self.assertEqual(stretch.lay(common(*eyes_to(60)), 1, 1), (1, 1) + tuple(range(2, 121)))
        self.assertEqual([stretch.spots, stretch.distance(1, 120), stretch.distance(60, 61)], [120, (1,), (1,)])
        self.assertEqual(stretch.world(), World.parted(120, {str(one): together(120) for one in eyes_to(60)}))
        world = World.parted(2, {str(one): together(2) for one in eyes_to(20)})
        stretch = Stretch(world)
        self.assertEqual(stretch.lay(common(*eyes_to(20)), 2, 1), (2, 1) + tuple(range(3, 42)))
        ties = [(str(eyes_to(20)[step % 20]), u, v) for step, (u, v) in
                enumerate(zip([2] + list(range(3, 42)), list(range(3, 42)) + [1]))]
        for name, u, v in ties:
            self.assertTrue(stretch.world().alike(eye(name), u, v))
