"""What must be told, found without frames, and the derivations that show it."""

import random

from pooledeyes.books import Book
from pooledeyes.circles import common, eye, pool
from pooledeyes.circletexts import is_circle_text, read_circle
from pooledeyes.closings import closed_world
from pooledeyes.descents import tells
from pooledeyes.musts import must_tell
from pooledeyes.puts import circles_in
from pooledeyes.tables import derivation_of, is_derivation, table_tells
from tests.making import all_circles, eyes_to, names_to, to_depth
from tests.plainworlds import random_circle
from tests.refusing import RefusingTest
from tests.test_books import random_book
from tests.test_closings import random_closings
from tests.test_musts import random_questions, read

RULES = ["each", "all", "same", "part", "whole", "grant", "through"]


class TableTest(RefusingTest):
    def test_as_the_closed_frame_tells(self):
        found = []
        for book, t, s in random_questions(481, 700, 6, 6) + random_questions(482, 200, 3, 12):
            wanted = must_tell(book, t, s)
            self.assertIs(table_tells(book, t, s), wanted, (book.text(), str(t), str(s)))
            self.assertIs(table_tells(s=s, t=t, book=book), wanted)
            found.append(wanted and not tells(t, s))
        self.assertGreater(found.count(True), 60)
        self.assertGreater(found.count(False), 200)

    def test_few_eyes(self):
        source = random.Random(483)
        circles = all_circles("abc", 4)
        for _ in range(500):
            book = Book(*[(source.choice(circles), source.choice("abc")) for _ in range(source.randint(0, 3))])
            t, s = source.choice(circles), source.choice(circles)
            self.assertIs(table_tells(book, t, s), must_tell(book, t, s), (book.text(), str(t), str(s)))

    def test_under_a_book_without_grants(self):
        source = random.Random(484)
        for _ in range(300):
            t, s = random_circle(source, 9), random_circle(source, 9)
            self.assertIs(table_tells(Book(), t, s), tells(t, s))

    def test_rings(self):
        ring = read("a > b, b > c, c > d, d > a")
        for one in "abcd":
            for other in "abcd":
                self.assertIs(table_tells(ring, eye(one), eye(other)), True)
                self.assertTrue(is_derivation(ring, eye(one), eye(other), derivation_of(ring, eye(one), eye(other))))
        self.assertIs(table_tells(ring, eye("a"), eye("e")), False)
        back = read("d > c, c > b, b > a")
        self.assertEqual([table_tells(back, eye("d"), eye("a")), table_tells(back, eye("a"), eye("d"))], [True, False])
        around = read("a & z > b, b & z > c, c & z > d, d & z > a")
        for t, s, wanted in [("a & z", "d", True), ("a", "d", False), ("c & z", "a & b & c & d", True),
                             ("c & z", "x", False)]:
            self.assertIs(table_tells(around, read_circle(t), read_circle(s)), wanted)

    def test_12_grants_in_a_row(self):
        names = names_to(13)
        for grants in [list(zip(names, names[1:])), list(zip(names, names[1:]))[::-1]]:
            book = Book(*[(eye(one), other) for one, other in grants])
            self.assertTrue(table_tells(book, eye("a"), eye("m")))
            self.assertFalse(table_tells(book, eye("m"), eye("a")))
            derivation = derivation_of(book, eye("a") & eye("z"), eye("m") | eye("y"))
            self.assertTrue(is_derivation(book, eye("a") & eye("z"), eye("m") | eye("y"), derivation))

    def test_great_circles_without_a_frame(self):
        for depth in [19, 20]:
            deep = to_depth(depth, 60)
            book = Book((deep, "zza"), (eye("zza") & eye("a"), "zzb"), (common(*eyes_to(60)), "zzc"))
            for t, s, wanted in [(deep, deep, True), (deep, eye("zza"), True), (eye("zza"), deep, False),
                                 (deep, eye("zzc"), True),
                                 (pool(*eyes_to(60)), eye("zzb"), True), (eye("zza"), eye("zzb"), False),
                                 (deep, read_circle("zza | zzd"), True), (eye("a"), eye("zzc"), True)]:
                self.assertIs(table_tells(book, t, s), wanted)
                derivation = derivation_of(book, t, s)
                self.assertIs(derivation is not None, wanted)
                if wanted:
                    self.assertTrue(is_derivation(book, t, s, derivation))
        self.assertIs(table_tells(Book(), common(*eyes_to(60)), pool(*eyes_to(60))), False)
        self.assertIs(table_tells(Book(), pool(*eyes_to(60)), common(*eyes_to(60))), True)

    def test_great_random_circles(self):
        source = random.Random(485)
        for _ in range(15):
            book = Book(*[(random_circle(source, 60),
                           source.choice(["a", "b", "c", "d", "long", "zz"])) for _ in range(12)])
            t, s = random_circle(source, 60), random_circle(source, 60)
            derivation = derivation_of(book, t, s)
            self.assertIs(derivation is not None, table_tells(book, t, s))
            if derivation is not None:
                self.assertTrue(is_derivation(book, t, s, derivation))
            elif t.size <= 12:
                self.assertFalse(must_tell(book, t, s))


class DerivationOfTest(RefusingTest):
    def test_none_or_a_right_derivation(self):
        found = []
        for book, t, s in random_questions(486, 500, 6, 6):
            derivation = derivation_of(book, t, s)
            self.assertEqual(derivation, derivation_of(s=s, t=t, book=book))
            self.assertIs(derivation is not None, must_tell(book, t, s))
            found.append(derivation is not None)
            if derivation is None:
                continue
            self.assertIs(type(derivation), list)
            self.assertEqual(derivation[-1][:2], (str(t), str(s)))
            self.assertIs(is_derivation(book, t, s, derivation), True)
            for at, (p, q, rule, because) in enumerate(derivation):
                self.assertTrue(is_circle_text(p) and is_circle_text(q) and rule in RULES)
                self.assertTrue(all(type(index) is int and 0 <= index < at for index in because))
                self.assertTrue(table_tells(book, read_circle(p), read_circle(q)))
        self.assertGreater(found.count(True), 150)
        self.assertGreater(found.count(False), 100)

    def test_small_derivations(self):
        self.assertEqual(derivation_of(Book(), eye("a"), eye("a")), [("a", "a", "same", ())])
        self.assertIs(derivation_of(Book(), eye("a"), eye("b")), None)
        self.assertIs(derivation_of(read("b > a"), eye("a"), eye("b")), None)
        derivation = derivation_of(read("a > b"), eye("a"), eye("b"))
        self.assertIn(("a", "b", "grant", ()), derivation)
        self.assertEqual(derivation[-1], ("a", "b", "grant", ()))
        derivation.clear()
        self.assertTrue(derivation_of(read("a > b"), eye("a"), eye("b")))

    def test_no_other_circles_are_needed(self):
        for book, t, s in random_questions(487, 100, 5, 4):
            known = circles_in(t) + circles_in(s)
            known += [one for circle, name in book for one in circles_in(circle) + [eye(name)]]
            for p, q, _, _ in derivation_of(book, t, s) or []:
                self.assertTrue(read_circle(p) in known and read_circle(q) in known)

    def test_rows_hold_in_worlds_that_keep_the_book(self):
        for (world, _, book), (_, t, s) in zip(random_closings(488, 60, 5), random_questions(489, 60)):
            closed = closed_world(world, book)
            for p, q, _, _ in derivation_of(book, t, s) or []:
                self.assertTrue(closed.tells(read_circle(p), read_circle(q)))

    def test_each_ways(self):
        source = random.Random(490)
        for _ in range(100):
            t = random_circle(source, 6)
            book = random_book(source, 5)
            for one, other in [(t, t), (t & eye("x"), t), (t, t | eye("x")), (t & eye("x"), t | eye("y"))]:
                self.assertTrue(is_derivation(book, one, other, derivation_of(book, one, other)))
