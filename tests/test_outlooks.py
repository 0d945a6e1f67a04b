"""Outlooks of sketches, and sketches that are merged or written in another order."""

import random

from pooledeyes.circles import eye
from pooledeyes.circletexts import read_circle
from pooledeyes.errors import CannotStand
from pooledeyes.refuters import all_worlds
from pooledeyes.sketches import Sketch
from tests.plainsketches import plain_bare, plain_broken, random_sketch
from tests.plainworlds import random_circle
from tests.reading import book_of, sketch_of
from tests.refusing import RefusingTest


def plain_outlook(sketch, circle, u, v):
    """The outlook by the facts of the document, None if the sketch does not stand."""
    many, sayings, grants = sketch.many, sketch.sayings(), sketch.book.grants()
    if plain_broken(many, sayings, grants) is not None:
        return None
    if plain_broken(many, sayings + [("unlike", circle, u, v)], grants) is not None:
        return "surely"
    if plain_broken(many, sayings + [("alike", circle, u, v)], grants) is not None:
        return "never"
    return "open"


def outlook_of(sketch, circle, u, v):
    """The outlook, None if the sketch does not stand."""
    try:
        return sketch.outlook(circle, u, v)
    except CannotStand:
        return None


class OutlookTest(RefusingTest):
    def outlook(self, sketch, circle, u, v, wanted):
        self.assertEqual(sketch.outlook(read_circle(circle), u, v), wanted, (sketch.sayings(), circle, u, v))

    def test_chosen_sketches(self):
        sketch = sketch_of(4, "1 2 alike a, 2 3 alike b, 1 4 unlike a, 3 4 alike a & b")
        for circle, u, v, wanted in [("a", 1, 2, "surely"), ("a", 2, 1, "surely"), ("a", 2, 2, "surely"),
                                     ("a", 4, 2, "never"), ("a", 1, 3, "never"), ("b", 1, 3, "open"),
                                     ("a | b", 1, 3, "surely"), ("a | b", 4, 1, "surely"), ("b", 4, 2, "surely"),
                                     ("a & b", 1, 2, "open"), ("a & b", 1, 3, "never"), ("a & c", 1, 4, "never"),
                                     ("c", 1, 4, "open"), ("a & c", 1, 2, "open"), ("a | c", 1, 4, "open")]:
            self.outlook(sketch, circle, u, v, wanted)

    def test_under_books(self):
        sketch = sketch_of(3, "1 2 alike a, 2 3 unlike c", "a > b, b > c")
        for circle, u, v, wanted in [("c", 1, 2, "surely"), ("c", 1, 3, "never"), ("b", 2, 3, "never"),
                                     ("a", 1, 3, "never"), ("a | d", 2, 3, "open"), ("d", 2, 3, "open"),
                                     ("b | c", 3, 1, "never"), ("b & d", 1, 2, "open")]:
            self.outlook(sketch, circle, u, v, wanted)
        self.assertEqual(sketch.outlook(other=2, one=1, circle=eye("c")), "surely")

    def test_against_plain_fillings(self):
        source = random.Random(131)
        seen = set()
        for _ in range(120):
            sketch = random_sketch(source, 3, 3)
            circle, u, v = random_circle(source, 2), source.randint(1, sketch.many), source.randint(1, sketch.many)
            if sketch.sayings() and source.random() < 0.4:
                circle, u, v = source.choice(sketch.sayings())[1:]
                circle = circle & random_circle(source, 1)
            if plain_bare(sketch.many, sketch.sayings() + [("alike", circle, u, v)])[0] > 14:
                continue
            wanted = plain_outlook(sketch, circle, u, v)
            self.assertEqual(outlook_of(sketch, circle, u, v), wanted)
            seen.add(wanted)
        self.assertEqual(seen, {None, "surely", "never", "open"})

    def test_in_all_small_worlds(self):
        names = ["a", "b", "c"]
        for sayings, book in [("1 2 alike a, 2 3 unlike b", "a > b"), ("1 2 alike a & b, 1 3 unlike c", "a | b > c"),
                              ("1 3 alike a, 2 3 alike b", ""), ("1 2 unlike c", "a > c, b > c")]:
            sketch = sketch_of(3, sayings, book)
            kept = [world for world in all_worlds(3, names) if sketch.kept_by(world)]
            for circle in ["a", "b", "c", "a & b", "a & c"]:
                for u, v in [(1, 2), (1, 3), (2, 3), (2, 2)]:
                    found = {world.alike(read_circle(circle), u, v) for world in kept}
                    outlook = sketch.outlook(read_circle(circle), u, v)
                    self.assertEqual(outlook, {(True,): "surely", (False,): "never"}.get(tuple(found), "open"))


class OtherOrderTest(RefusingTest):
    def alike(self, one, other, source):
        """Two sketches stand or not, and have the same outlooks."""
        self.assertIs(one.stands(), other.stands())
        for _ in range(3):
            circle, u, v = random_circle(source, 2), source.randint(1, one.many), source.randint(1, one.many)
            self.assertEqual(outlook_of(one, circle, u, v), outlook_of(other, circle, u, v))
        for sketch in [one, other]:
            broken = [at for at, (word, circle, u, v) in enumerate(sketch.sayings())
                      if word == "unlike" and sketch.filling().alike(circle, u, v)]
            self.assertEqual(sketch.first_broken(), broken[0] if broken else None)

    def test_merged_both_ways(self):
        source = random.Random(132)
        stood = {True: 0, False: 0}
        for _ in range(60):
            one, other = random_sketch(source, 3, 4), random_sketch(source, 3, 4)
            other = Sketch(3, *other.sayings(), *one.sayings()[:1], under=one.book)
            one = Sketch(3, *one.sayings(), under=one.book)
            self.alike(one.merged(other), other.merged(one), source)
            self.assertEqual(one.merged(other).merged(one), one.merged(other))
            stood[one.merged(other).stands()] += 1
        self.assertGreater(min(stood.values()), 10)

    def test_another_order_twice_and_taken_away(self):
        source = random.Random(133)
        for _ in range(60):
            sketch = random_sketch(source, 3, 4)
            sayings = sketch.sayings()
            shuffled = source.sample(sayings, len(sayings))
            self.alike(sketch, Sketch(sketch.many, *shuffled, under=sketch.book), source)
            self.alike(sketch, Sketch(sketch.many, *sayings, *shuffled, under=sketch.book), source)
            for word in ["alike", "unlike"]:
                self.assertEqual(sketch.with_saying(word, eye("a"), 1, 1).without(len(sketch)), sketch)
            if sayings:
                at = source.randrange(len(sayings))
                moved = sketch.without(at).with_saying(*sayings[at])
                self.alike(sketch, moved, source)

    def test_the_first_broken_is_by_the_order_of_each(self):
        one = sketch_of(2, "1 2 unlike a, 1 2 alike b, 1 2 unlike b", "b > a")
        other = sketch_of(2, "1 2 unlike b, 1 2 alike a & b", "b > a")
        self.assertEqual([one.first_broken(), one.merged(other).first_broken(), other.merged(one).first_broken(),
                          one.without(0).first_broken(), one.with_book(book_of("")).first_broken()], [0, 0, 0, 1, 2])
