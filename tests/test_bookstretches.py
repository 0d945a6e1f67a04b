"""Books and stretches: stretched worlds keep what their worlds keep, and closed frames map into stretches."""

import random

from pooledeyes.books import Book
from pooledeyes.circles import eye
from pooledeyes.circletexts import read_circle
from pooledeyes.closings import closed_world
from pooledeyes.frames import count_cases
from pooledeyes.musts import closed_frame, must_tell
from pooledeyes.partings import is_within
from pooledeyes.stretches import Stretch
from pooledeyes.worlds import World
from tests.plainworlds import random_circle, random_ties
from tests.refusing import RefusingTest
from tests.test_books import NAMES, random_book


def kept_stretches(source, count):
    """So many (book, stretch) where the begun world keeps the book, and nothing is laid so far."""
    for _ in range(count):
        many = source.randint(1, 5)
        book = random_book(source, 5)
        ties = random_ties(source, many, NAMES, source.randint(0, 5))
        yield book, Stretch(closed_world(World(many, ties), book), NAMES)


def lays(source, stretch, count):
    """Lay up to so many random circles; each of them with its spots."""
    for _ in range(count):
        circle = random_circle(source, 5)
        one, other = source.randint(1, stretch.spots), source.randint(1, stretch.spots)
        fits = stretch.spots + count_cases(circle) - 2 <= 60
        if fits and is_within(stretch.distance(one, other), stretch.begun.parting(circle)):
            yield circle, stretch.lay(circle, one, other)


class BookStretchTest(RefusingTest):
    def test_stretched_worlds_keep_the_book(self):
        source = random.Random(501)
        new = 0
        for book, stretch in kept_stretches(source, 60):
            new += len(list(lays(source, stretch, 15)))
            self.assertTrue(book.kept_by(stretch.begun))
            self.assertTrue(book.kept_by(stretch.world()))
            self.assertIs(book.first_unkept(stretch.world()), None)
            # Cases of the begun world stay as they were to each circle, so no other grant comes to be kept.
            more = random_book(source, 3)
            self.assertIs(more.kept_by(stretch.world()), more.kept_by(stretch.begun))
        self.assertGreater(new, 100)

    def test_closed_frames_map_into_stretches(self):
        source = random.Random(502)
        mapped = 0
        for book, stretch in kept_stretches(source, 60):
            for circle, spots in lays(source, stretch, 12):
                closed, world = closed_frame(book, circle), stretch.world()
                self.assertEqual(len(spots), closed.many)
                for name in closed.eyes():
                    for case, item in enumerate(closed.parting(eye(name)), start=1):
                        self.assertTrue(world.alike(eye(name), spots[case - 1], spots[item - 1]))
                        mapped += item < case
        self.assertGreater(mapped, 500)

    def test_what_must_be_told_is_told_between_the_spots(self):
        source = random.Random(503)
        told = 0
        for book, stretch in kept_stretches(source, 60):
            for circle, spots in lays(source, stretch, 12):
                s = random_circle(source, 4)
                if must_tell(book, circle, s):
                    told += 1
                    self.assertTrue(stretch.world().alike(s, spots[0], spots[1]))
                    self.assertTrue(stretch.world().tells(circle, s))
        self.assertGreater(told, 50)

    def test_a_chosen_book(self):
        book = Book.read("a | b > c\n")
        world = closed_world(World(3, [("a", 1, 2), ("b", 2, 3)]), book)
        stretch = Stretch(world)
        spots = stretch.lay(read_circle("a | b"), 1, 3)
        self.assertEqual(spots, (1, 3, 4, 5, 6))
        self.assertTrue(book.kept_by(stretch.world()))
        self.assertEqual(stretch.world().parting(eye("c")), (1,) * 6)
        other = Stretch(World(3, [("a", 1, 2), ("b", 2, 3)]), ["c"])
        other.lay(read_circle("a | b"), 1, 3)
        self.assertFalse(book.kept_by(other.world()))
