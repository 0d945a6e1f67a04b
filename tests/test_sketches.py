"""Sketches: what they tell, their fillings, and worlds that keep them."""

import random

from pooledeyes.books import Book
from pooledeyes.circles import common, eye, pool
from pooledeyes.circletexts import read_circle
from pooledeyes.closings import closing_log
from pooledeyes.frames import Frame, count_ties
from pooledeyes.musts import closed_frame, must_tell
from pooledeyes.refuters import all_worlds
from pooledeyes.sketches import Sketch
from pooledeyes.worlds import World
from tests.making import with_ties
from tests.plainlogs import plain_alike, plain_keeps
from tests.plainsketches import plain_bare, plain_broken, plain_filling, random_sketch, sketch_read_off
from tests.plainworlds import random_circle, random_worlds
from tests.reading import book_of, sayings_of, sketch_of
from tests.refusing import RefusingTest
from tests.test_books import random_book


def plain_keeps_sketch(world, sketch):
    """Whether a world keeps a sketch, over pairs of cases."""
    if world.many < sketch.many or not plain_keeps(world, sketch.book.grants()):
        return False
    return all(plain_alike(world, circle, u, v) is (word == "alike") for word, circle, u, v in sketch.sayings())


class SketchTest(RefusingTest):
    def test_attributes(self):
        sayings = sayings_of("1 2 alike a & b, 2 2 unlike c, 3 1 alike a | d")
        sketch = Sketch(3, *sayings, under=book_of("a > b"))
        self.assertEqual([sketch.many, sketch.book, sketch.sayings(), len(sketch), repr(sketch), bool(sketch)],
                         [3, book_of("a > b"), sayings, 3, "Sketch(3 cases, 3 sayings)", True])
        empty = Sketch(1)
        self.assertEqual([empty.many, empty.book, empty.sayings(), len(empty), repr(empty), bool(empty)],
                         [1, Book(), [], 0, "Sketch(1 cases, 0 sayings)", True])
        self.assertEqual(Sketch(8, under=None), Sketch(8, under=Book()))
        self.assertEqual(Sketch(many=8).book, Book())
        self.assertEqual(repr(sketch_of(8, "8 8 alike a")), "Sketch(8 cases, 1 sayings)")

    def test_new_lists(self):
        sketch = sketch_of(2, "1 2 alike a")
        sketch.sayings().append("x")
        self.assertEqual(sketch.sayings(), sayings_of("1 2 alike a"))

    def test_equal_sketches(self):
        sketch = sketch_of(3, "1 2 alike a, 2 3 unlike b", "a > b")
        self.assertEqual(sketch, sketch_of(3, "1 2 alike a, 2 3 unlike b", "a > b"))
        for other in [sketch_of(4, "1 2 alike a, 2 3 unlike b", "a > b"), sketch_of(3, "1 2 alike a", "a > b"),
                      sketch_of(3, "2 3 unlike b, 1 2 alike a", "a > b"), sketch_of(3, "1 2 alike a, 2 3 unlike b"),
                      sketch_of(3, "2 1 alike a, 2 3 unlike b", "a > b"), None, 3, sketch.book, sketch.sayings(),
                      sketch_of(3, "1 2 alike a, 2 3 alike b", "a > b"), sketch_of(3, "", "a > b")]:
            self.assertNotEqual(sketch, other)

    def test_changed_sketches(self):
        sketch = sketch_of(3, "1 2 alike a, 2 3 unlike b, 1 1 alike c", "a > b")
        self.assertEqual(sketch.with_saying("unlike", eye("z"), 3, 1),
                         sketch_of(3, "1 2 alike a, 2 3 unlike b, 1 1 alike c, 3 1 unlike z", "a > b"))
        self.assertEqual(sketch.with_saying(other=1, one=3, circle=eye("z"), word="alike").sayings()[3],
                         ("alike", eye("z"), 3, 1))
        self.assertEqual([sketch.without(at) for at in range(3)],
                         [sketch_of(3, "2 3 unlike b, 1 1 alike c", "a > b"),
                          sketch_of(3, "1 2 alike a, 1 1 alike c", "a > b"),
                          sketch_of(3, "1 2 alike a, 2 3 unlike b", "a > b")])
        self.assertEqual(sketch.with_book(book_of("c > d")),
                         sketch_of(3, "1 2 alike a, 2 3 unlike b, 1 1 alike c", "c > d"))
        self.assertEqual(sketch.with_book(book=Book()).book, Book())
        self.assertEqual(sketch, sketch_of(3, "1 2 alike a, 2 3 unlike b, 1 1 alike c", "a > b"))
        self.assertEqual(sketch.without(at=2).with_saying("alike", eye("c"), 1, 1), sketch)

    def test_merged(self):
        one = sketch_of(3, "1 2 alike a, 2 3 unlike b", "a > b")
        other = sketch_of(3, "1 2 alike c, 2 3 unlike b, 1 2 alike d, 1 2 alike c, 2 1 alike a", "a > b")
        self.assertEqual(one.merged(other), sketch_of(3, "1 2 alike a, 2 3 unlike b, 1 2 alike c, 1 2 alike d, "
                                                         "1 2 alike c, 2 1 alike a", "a > b"))
        self.assertEqual(other.merged(other=one), sketch_of(3, "1 2 alike c, 2 3 unlike b, 1 2 alike d, 1 2 alike c, "
                                                               "2 1 alike a, 1 2 alike a", "a > b"))
        self.assertEqual(one.merged(one), one)
        self.assertEqual(one.merged(sketch_of(3, "", "a > b")), one)


class FillingTest(RefusingTest):
    def test_the_example(self):
        a, b, c = eye("a"), eye("b"), eye("c")
        sketch = Sketch(3, ("alike", common(a, b), 1, 2), ("alike", pool(a, c), 2, 3), under=Book((common(a, b), "c")))
        self.assertEqual(sketch.bare().text(), "cases 6\na 1 2 2 1 5 5\nb 1 2 3 4 4 2\nc 1 2 2 4 5 6\n")
        self.assertEqual(closing_log(sketch.bare(), sketch.book), [(0, 1, 2), (0, 1, 4), (0, 1, 5), (0, 1, 6)])
        self.assertEqual(sketch.filling().text(), "cases 6\na 1 2 2 1 5 5\nb 1 2 3 4 4 2\nc 1 1 1 1 1 1\n")

    def test_chosen_sketches(self):
        self.assertEqual(Sketch(1).bare(), World(1))
        self.assertEqual(sketch_of(8, "", "a | b > c").filling(), World(8))
        self.assertEqual(sketch_of(3, "1 2 unlike a, 2 3 unlike b & c").bare(), World(3))
        self.assertEqual(sketch_of(2, "2 2 alike a | b").bare(), World(5, [("a", 2, 3), ("b", 3, 4), ("a", 4, 5),
                                                                          ("b", 5, 2)]))
        self.assertEqual(sketch_of(2, "1 1 alike a & b").bare(), World(2))
        sketch = sketch_of(2, "1 2 alike a | b, 2 1 unlike c, 2 1 alike c & (b | d)")
        self.assertEqual(sketch.bare(), World(8, [("a", 1, 3), ("b", 3, 4), ("a", 4, 5), ("b", 5, 2), ("c", 2, 1),
                                                  ("b", 2, 6), ("d", 6, 7), ("b", 7, 8), ("d", 8, 1)]))

    def test_against_plain_fillings(self):
        source = random.Random(121)
        seen = set()
        for _ in range(120):
            sketch = random_sketch(source)
            if plain_bare(sketch.many, sketch.sayings())[0] > 16:
                continue
            grants = sketch.book.grants()
            self.assertEqual(sketch.bare(), World(*plain_bare(sketch.many, sketch.sayings())))
            self.assertEqual(sketch.filling(), World(*plain_filling(sketch.many, sketch.sayings(), grants)))
            broken = plain_broken(sketch.many, sketch.sayings(), grants)
            self.assertEqual(sketch.first_broken(), broken)
            self.assertIs(sketch.stands(), broken is None)
            if broken is None:
                self.assertTrue(sketch.kept_by(sketch.filling()))
                self.assertTrue(plain_keeps_sketch(sketch.filling(), sketch))
            else:
                self.assertFalse(sketch.kept_by(sketch.filling()))
            seen.add(broken)
        self.assertLessEqual({None, 0, 1, 2}, seen)

    def test_first_broken(self):
        for sayings, book, wanted in [("", "", None), ("1 2 unlike a", "", None), ("1 1 unlike a", "", 0),
                                      ("1 2 alike a, 2 1 unlike a", "", 1), ("2 1 unlike a, 1 2 alike a", "", 0),
                                      ("1 2 alike a, 1 2 unlike b", "", None),
                                      ("1 2 alike a, 1 2 unlike b", "a > b", 1),
                                      ("1 2 unlike c, 1 2 unlike b, 1 2 alike a", "a > b", 1),
                                      ("1 2 alike a, 2 3 alike a, 1 3 unlike a", "", 2),
                                      ("1 2 alike a, 2 3 alike b, 1 3 unlike a | b, 1 2 unlike a", "", 2),
                                      ("1 2 alike a, 2 3 alike b, 1 3 unlike a", "a | b > a", 2)]:
            sketch = sketch_of(3, sayings, book)
            self.assertEqual(sketch.first_broken(), wanted, (sayings, book))
            self.assertIs(sketch.stands(), wanted is None)

    def test_256_ties(self):
        great = with_ties(256)
        sketch = Sketch(2, ("alike", great, 1, 2), ("unlike", eye("zz"), 1, 2))
        self.assertTrue(sketch.stands())
        self.assertTrue(sketch.filling().alike(great, 1, 2))
        self.assertEqual(sketch.with_saying("unlike", great, 2, 1).first_broken(), 2)


class KeptTest(RefusingTest):
    def test_chosen_worlds(self):
        sketch = sketch_of(2, "1 2 alike a, 1 2 unlike b", "a > c")
        for text, wanted in [("cases 2\na 1 1\nc 1 1\n", True), ("cases 2\na 1 1\n", False), ("cases 1\n", False),
                             ("cases 2\na 1 1\nb 1 1\nc 1 1\n", False), ("cases 2\nc 1 1\n", False),
                             ("cases 4\na 1 1 3 4\nb 1 2 3 3\nc 1 1 3 4\n", True),
                             ("cases 4\na 1 1 3 3\nb 1 2 3 3\nc 1 1 3 4\n", False),
                             ("cases 4\na 1 1 3 3\nc 1 1 3 3\n", True), ("cases 3\na 1 1 1\nc 1 1 1\n", True)]:
            self.assertIs(sketch.kept_by(World.read(text)), wanted, text)
        self.assertIs(sketch.kept_by(world=World(2)), False)
        self.assertIs(Sketch(2).kept_by(World(1)), False)
        self.assertIs(Sketch(2).kept_by(World(2400)), True)

    def test_random_worlds(self):
        source = random.Random(122)
        seen = {True: 0, False: 0}
        for world, _ in random_worlds(123, 150, 5):
            for sketch in [random_sketch(source, 3, 2, 2, 1), sketch_read_off(source, world, random_book(source, 2))]:
                wanted = plain_keeps_sketch(world, sketch)
                self.assertIs(sketch.kept_by(world), wanted)
                seen[wanted] += 1
                if wanted:
                    self.assertTrue(sketch.stands())
        self.assertGreater(min(seen.values()), 50)

    def test_sketches_read_off_worlds(self):
        source = random.Random(124)
        seen = set()
        for world, _ in random_worlds(125, 150, 6):
            sketch = sketch_read_off(source, world, random_book(source, 3))
            self.assertTrue(sketch.kept_by(world))
            self.assertTrue(sketch.stands())
            self.assertTrue(sketch.kept_by(sketch.filling()))
            for _ in range(3):
                circle, u, v = random_circle(source, 3), source.randint(1, sketch.many), source.randint(1, sketch.many)
                outlook = sketch.outlook(circle, u, v)
                if outlook != "open":
                    self.assertEqual(world.alike(circle, u, v), outlook == "surely")
                seen.add((outlook, world.alike(circle, u, v)))
        self.assertEqual(seen, {("surely", True), ("never", False), ("open", True), ("open", False)})

    def test_all_small_worlds(self):
        # A sketch stands exactly if some world keeps it; these need no more than three cases.
        for sayings, book in [("1 2 alike a, 1 2 unlike b", "a > b"), ("1 2 alike a, 1 2 unlike b", "b > a"),
                              ("1 2 alike a & b, 1 2 unlike c", "a | b > c"),
                              ("1 2 alike a, 1 2 unlike c", "a & b > c"),
                              ("1 2 alike a, 2 3 alike b, 1 3 unlike c", "a > c, b > c")]:
            sketch = sketch_of(3, sayings, book)
            self.assertEqual(sketch.stands(), any(sketch.kept_by(world) for world in all_worlds(3, ["a", "b", "c"])))


class TwoCasesTest(RefusingTest):
    def test_two_cases_are_a_frame(self):
        source = random.Random(126)
        seen = set()
        for _ in range(120):
            t, s, book = random_circle(source, 5), random_circle(source, 4), random_book(source, 3)
            if count_ties(t) + count_ties(s) > 256:
                continue
            sketch = Sketch(2, ("alike", t, 1, 2), under=book)
            self.assertEqual(sketch.bare(), Frame(t).world())
            self.assertEqual(sketch.filling(), closed_frame(book, t))
            self.assertEqual(sketch.outlook(s, 1, 2) == "surely", must_tell(book, t, s))
            self.assertNotEqual(sketch.outlook(s, 1, 2), "never")
            self.assertEqual(sketch.with_saying("unlike", s, 1, 2).stands(), not must_tell(book, t, s))
            seen.add(sketch.outlook(s, 1, 2))
        self.assertEqual(seen, {"surely", "open"})

    def test_sayings_of_any_circle(self):
        self.assertEqual(sketch_of(2, "1 2 alike (a | b) & (b | c)").filling().many, 8)
        self.assertEqual(Sketch(2, ("unlike", read_circle("a | b"), 1, 2)).filling(), World(2))
