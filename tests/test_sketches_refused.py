"""Sketches: what is refused, and in which order."""

from pooledeyes.books import Book
from pooledeyes.circles import eye
from pooledeyes.errors import (CannotStand, InvalidCase, InvalidNumber, InvalidSaying, TooMany, UnknownSaying,
                               UnlikeSketches)
from pooledeyes.sketches import Sketch
from tests.anyvalues import any_values, but_numbers, without_circles
from tests.making import with_ties
from tests.reading import book_of, sketch_of
from tests.refusing import RefusingTest

A, B = eye("a"), eye("b")
SAYINGS = {"what": "sayings", "most": 12}
TIES = {"what": "ties", "most": 256}
GREAT = with_ties(257)
RIGHT = ("alike", A, 1, 2)


def tied(*counts):
    """Alike sayings whose frames have so many ties."""
    return [("alike", with_ties(count), 1, 2) for count in counts]


class RefusedTest(RefusingTest):
    def test_numbers(self):
        for value in but_numbers(1, 8):
            self.refused(InvalidNumber, {"value": value}, Sketch, value)
            self.refused(InvalidNumber, {"value": value}, Sketch, value, None, RIGHT, under=book_of("a > b"))
            self.refused(InvalidNumber, {"value": value}, Sketch, value, *[RIGHT] * 13)
        for many in range(1, 9):
            self.assertEqual(Sketch(many).many, many)

    def test_sayings(self):
        wrong = any_values() + [("alike", A, 1), ("alike", A, 1, 2, 3), ["alike", A, 1, 2], ("Alike", A, 1, 2),
                                (RIGHT,),
                                ("alike", "a", 1, 2), (None, A, 1, 2), (["alike"], A, 1, 2), ("alike", A, 1, 4),
                                ("unlike", A, 0, 1), ("alike", A, 1.0, 2), ("alike", A, True, 2), ("alike", A, 2, True),
                                ("like", A, 1, 2), ("", A, 1, 2), ("alike", (A,), 1, 2), ("unlike", A, (1,), 2)]
        for value in wrong:
            self.refused(InvalidSaying, {"at": 0}, Sketch, 3, value)
            self.refused(InvalidSaying, {"at": 1}, Sketch, 3, RIGHT, value, None)
            self.refused(InvalidSaying, {"at": 12}, Sketch, 3, *[RIGHT] * 12, value)
            self.refused(InvalidSaying, {"at": 2}, Sketch, 3, *tied(256, 256), value)
        for word in ["alike", "unlike"]:
            for value in but_numbers(1, 3):
                self.refused(InvalidSaying, {"at": 1}, Sketch, 3, RIGHT, (word, A, value, 1))
                self.refused(InvalidSaying, {"at": 1}, Sketch, 3, RIGHT, (word, A, 1, value))
            for value in without_circles():
                self.refused(InvalidSaying, {"at": 1}, Sketch, 3, RIGHT, (word, value, 1, 2))
        for value in any_values():
            self.refused(InvalidSaying, {"at": 0}, Sketch, 3, (value, A, 1, 2))
        self.refused(InvalidSaying, {"at": 0}, Sketch, 1, RIGHT)

    def test_13_sayings(self):
        for saying in [RIGHT, ("unlike", A, 1, 2)]:
            self.assertEqual(len(Sketch(2, *[saying] * 12)), 12)
            for many in [13, 14, 40]:
                self.refused(TooMany, SAYINGS, Sketch, 2, *[saying] * many)
                self.refused(InvalidSaying, {"at": many}, Sketch, 2, *[saying] * many, None)
        self.refused(TooMany, SAYINGS, Sketch, 2, *tied(257) * 13)

    def test_257_ties(self):
        for counts in [(256,), (1, 255), (128, 128), (200, 50, 6), (255,), (100, 155)]:
            self.assertEqual(len(Sketch(2, *tied(*counts))), len(counts))
        for counts in [(257,), (256, 1), (1, 256), (128, 129), (100, 100, 57), (258,)]:
            self.refused(TooMany, TIES, Sketch, 2, *tied(*counts))
            self.refused(TooMany, TIES, Sketch, 2, ("unlike", A, 1, 2), *tied(*counts), RIGHT)
        # Unlike sayings lay no ties.
        self.assertEqual(len(Sketch(2, *tied(256), *[("unlike", GREAT, 1, 2)] * 11)), 12)

    def test_with_saying(self):
        for many in [0, 1, 11, 12]:
            sketch = Sketch(2, *[RIGHT] * many, under=book_of("a > b"))
            for value in any_values():
                self.refused(InvalidSaying, {"at": many}, sketch.with_saying, value, A, 1, 2)
                self.refused(InvalidSaying, {"at": many}, sketch.with_saying, value, value, value, value)
            for value in without_circles():
                self.refused(InvalidSaying, {"at": many}, sketch.with_saying, "alike", value, 1, 2)
            for value in but_numbers(1, 2):
                self.refused(InvalidSaying, {"at": many}, sketch.with_saying, "unlike", A, value, 2)
                self.refused(InvalidSaying, {"at": many}, sketch.with_saying, "alike", GREAT, 2, value)
            if many == 12:
                self.refused(TooMany, SAYINGS, sketch.with_saying, "alike", A, 1, 2)
                self.refused(TooMany, SAYINGS, sketch.with_saying, "alike", GREAT, 1, 2)
                self.refused(TooMany, SAYINGS, sketch.with_saying, "unlike", A, 1, 1)
            else:
                self.refused(TooMany, TIES, sketch.with_saying, "alike", with_ties(257 - many), 1, 2)
                self.assertEqual(len(sketch.with_saying("alike", with_ties(256 - many), 1, 2)), many + 1)
                self.assertEqual(len(sketch.with_saying("unlike", GREAT, 1, 2)), many + 1)
            self.assertEqual(sketch, Sketch(2, *[RIGHT] * many, under=book_of("a > b")))

    def test_without(self):
        for many in [0, 1, 3, 12]:
            for value in but_numbers(0, many - 1):
                self.refused(UnknownSaying, {"at": value}, Sketch(2, *[RIGHT] * many).without, value)

    def test_merged(self):
        sketch = sketch_of(2, "1 2 alike a", "a > b")
        for other in [sketch_of(3, "1 2 alike a", "a > b"), sketch_of(2, "1 2 alike a"), sketch_of(1, "", "a > b"),
                      sketch_of(2, "1 2 alike a", "a > c"), sketch_of(2, "", "a > b, a > b"),
                      Sketch(3, *tied(256), *[("unlike", A, 1, 2)] * 11, under=book_of("a > b"))]:
            self.refused(UnlikeSketches, {}, sketch.merged, other)
            self.refused(UnlikeSketches, {}, other.merged, sketch)
        one, other = Sketch(2, *[("unlike", A, 1, 2)] * 7), Sketch(2, *[("unlike", B, 1, 2)] * 6)
        self.refused(TooMany, SAYINGS, one.merged, other)
        self.refused(TooMany, SAYINGS, other.merged, one)
        self.assertEqual(len(other.without(0).merged(one)), 12)
        great = Sketch(2, *tied(200), *[("unlike", A, 1, 2)] * 7)
        self.refused(TooMany, TIES, great.merged, Sketch(2, *tied(57)))
        self.assertEqual(len(great.merged(Sketch(2, *tied(56)))), 9)
        self.assertEqual(len(great.merged(Sketch(2, *tied(200)))), 8)
        self.refused(TooMany, SAYINGS, great.merged, Sketch(2, *tied(57), *[("unlike", B, 1, 2)] * 4))


class OutlookRefusedTest(RefusingTest):
    def test_in_this_order(self):
        falls = Sketch(2, *tied(200), ("unlike", A, 2, 2), ("unlike", A, 1, 1))
        stands = Sketch(2, *tied(200))
        for sketch in [falls, stands]:
            for value in but_numbers(1, 2):
                self.refused(InvalidCase, {"value": value}, sketch.outlook, GREAT, value, 1)
                self.refused(InvalidCase, {"value": value}, sketch.outlook, GREAT, value, None)
                self.refused(InvalidCase, {"value": value}, sketch.outlook, A, 2, value)
        self.refused(CannotStand, {"at": 1}, falls.outlook, GREAT, 1, 2)
        self.refused(CannotStand, {"at": 1}, falls.outlook, A, 1, 1)
        self.refused(CannotStand, {"at": 0}, sketch_of(2, "1 2 unlike a, 1 2 alike a").outlook, B, 1, 2)
        sketch = sketch_of(2, "1 2 alike a, 1 2 unlike c, 1 2 unlike b", "a > b")
        self.refused(CannotStand, {"at": 2}, sketch.outlook, B, 1, 2)
        other = eye("zz")
        self.refused(TooMany, TIES, stands.outlook, with_ties(57) & other, 1, 2)
        self.assertEqual(stands.outlook(with_ties(55) & other, 1, 2), "open")
        self.refused(TooMany, TIES, Sketch(2, *tied(256)).outlook, other, 1, 2)
        # What is sure needs no further frame.
        self.assertEqual(Sketch(2, *tied(256)).outlook(with_ties(256), 1, 2), "surely")
        self.assertEqual(Sketch(2, *tied(256)).outlook(GREAT, 1, 1), "surely")
        self.assertEqual(Sketch(2, *tied(256)).outlook(with_ties(256) | other, 1, 2), "surely")
        self.assertEqual(Sketch(2, *tied(255)).outlook(other, 1, 2), "open")

    def test_13_sayings_are_no_bound(self):
        sketch = Sketch(2, *[("unlike", A, 1, 2)] * 12)
        self.assertEqual([sketch.outlook(A, 1, 2), sketch.outlook(B, 1, 2), sketch.outlook(A, 2, 2)],
                         ["never", "open", "surely"])
        self.assertEqual(Book(), sketch.book)
