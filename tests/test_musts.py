"""What must be told under books: closed frames, and growing, lean and alike books."""

import itertools
import random

from pooledeyes.books import Book
from pooledeyes.circles import common, eye, pool
from pooledeyes.circletexts import read_circle
from pooledeyes.closings import closed_world
from pooledeyes.descents import tells
from pooledeyes.errors import CommonShown, InvalidName, TooMany, UnknownGrant
from pooledeyes.frames import Frame, count_ties
from pooledeyes.musts import (books_alike, closed_frame, follows, follows_from_others, grants_for, lean, must_tell,
                              told_among, unlike_grant)
from pooledeyes.worlds import World
from tests.anyvalues import but_names, but_numbers
from tests.making import eyes_to, to_depth, with_ties
from tests.plainbooks import plain_closing
from tests.plainframes import plain_frame
from tests.plainworlds import plain_relation, random_circle
from tests.refusing import RefusingTest
from tests.test_books import NAMES, random_book
from tests.test_closings import random_closings

TIES = {"what": "ties", "most": 256}
GREAT = to_depth(20, 60)


def read(text):
    """The book with a text, in which a comma stands for a line's end."""
    return Book.read("".join(line + "\n" for line in text.split(", ") if line))


def random_questions(seed, count, size=5, grants=4):
    """So many random (book, t, s) with small frames."""
    source = random.Random(seed)
    found = []
    while len(found) < count:
        book, t, s = random_book(source, grants), random_circle(source, size), random_circle(source, size)
        if count_ties(t) <= 60:
            found.append((book, t, s))
    return found


class MustTellTest(RefusingTest):
    def must(self, book, t, s, wanted):
        self.assertIs(must_tell(read(book), read_circle(t), read_circle(s)), wanted, (book, t, s))

    def test_the_example(self):
        self.must("a & b > c", "(a & b) | c", "c", True)
        self.must("a & b > c", "(a | c) & (b | c)", "c", False)
        self.must("a | b > c, c & d > a", "b & d", "a", True)
        self.must("c & d > a", "b & d", "a", False)

    def test_chosen_books(self):
        self.must("", "a & b", "a", True)
        self.must("", "a", "b", False)
        self.must("a > b", "a", "b", True)
        self.must("a > b", "b", "a", False)
        self.must("a > b, b > c", "a", "c", True)
        self.must("a > b, b > c", "a", "b & c", True)
        self.must("a > b, b > c", "a | b", "c", True)
        self.must("a > b, b > a", "a | c", "b | c", True)
        self.must("a & b > c", "a", "c", False)
        self.must("a & b > c", "a & b & d", "c | z", True)
        self.must("a | b > c", "a", "c", True)
        self.must("a & b > c", "(a & b) | (c & d)", "c", True)
        self.must("z > y", "a", "a | b", True)
        self.must("a & c > b, b & c > d", "a & c", "d", True)

    def test_the_closed_frame(self):
        for book, t, s in random_questions(461, 120):
            frame = Frame(t)
            closed = closed_frame(book, t)
            self.assertIsInstance(closed, World)
            self.assertEqual(closed, closed_world(frame.world(), book))
            self.assertEqual(closed, closed_frame(t=t, book=book))
            self.assertIs(must_tell(book, t, s), closed.alike(s, 1, 2))
            self.assertIs(must_tell(s=s, t=t, book=book), closed.alike(s, 1, 2))

    def test_the_second_way(self):
        for book, t, s in random_questions(462, 60, 4, 3):
            ties = plain_frame(t)
            many = Frame(t).many
            if many <= 9:
                _, behind = plain_closing(many, ties, book.grants())
                self.assertIs(must_tell(book, t, s), (1, 2) in plain_relation(many, behind, s))

    def test_under_a_book_without_grants(self):
        for book, t, s in random_questions(463, 200, 6, 0):
            self.assertIs(must_tell(Book(), t, s), tells(t, s))
            self.assertEqual(closed_frame(Book(), t), Frame(t).world())

    def test_in_all_worlds_that_keep_the_book(self):
        questions = random_questions(464, 40)
        told = [must_tell(*question) for question in questions]
        self.assertIn(True, told)
        self.assertIn(False, told)
        for world, _, other in random_closings(465, 25, 6):
            for (book, t, s), wanted in zip(questions, told):
                closed = closed_world(world, book)
                if wanted:
                    self.assertTrue(book.kept_by(closed) and closed.tells(t, s))

    def test_what_need_not_be_told_is_refuted_by_the_closed_frame(self):
        for book, t, s in random_questions(466, 150):
            closed = closed_frame(book, t)
            self.assertTrue(book.kept_by(closed))
            self.assertTrue(closed.alike(t, 1, 2))
            self.assertIs(closed.alike(s, 1, 2), must_tell(book, t, s))
            self.assertIs(closed.tells(t, s), must_tell(book, t, s))

    def test_more_grants_let_no_less_be_told(self):
        source = random.Random(467)
        for book, t, s in random_questions(468, 100):
            if must_tell(book, t, s):
                self.assertTrue(must_tell(book.with_grant(random_circle(source, 4), "b"), t, s))
            self.assertTrue(all(must_tell(book, circle, eye(name)) for circle, name in book))

    def test_told_among(self):
        source = random.Random(469)
        for book, t, _ in random_questions(470, 60):
            circles = [random_circle(source, 4) for _ in range(source.randint(0, 9))]
            wanted = [at for at, s in enumerate(circles) if must_tell(book, t, s)]
            self.assertEqual(told_among(book, t, circles), wanted)
            self.assertEqual(told_among(circles=tuple(circles), t=t, book=book), wanted)
        self.assertEqual(told_among(Book(), eye("a"), []), [])
        self.assertEqual(told_among(read("a > b"), eye("a"), [eye("b"), eye("c"), eye("a"), eye("b")]), [0, 2, 3])

    def test_252_to_257_ties(self):
        for many in [252, 253, 254, 255, 256, 257]:
            t = with_ties(many)
            book = Book((t, "zz"), (eye("zz"), "zy"))
            if many <= 256:
                self.assertIs(must_tell(book, t, eye("zy")), True)
                self.assertIs(must_tell(book, t, eye("zx")), False)
                self.assertEqual(told_among(book, t, [eye("zx"), eye("zz"), t]), [1, 2])
                self.assertEqual(closed_frame(book, t).many, Frame(t).many)
                self.assertIs(follows(book, t, "zy"), True)
                self.assertIs(follows_from_others(book, 0), False)
                self.assertEqual(lean(book), book)
                self.assertIs(books_alike(book, book), True)
                self.assertIs(unlike_grant(book, Book()) == (0, 0), True)
            else:
                for function, values in [
                    (must_tell, (book, t, eye("a"))), (told_among, (book, t, [])), (closed_frame, (book, t)),
                    (told_among, (Book(), t, [eye("a")])), (must_tell, (Book(), t, t)), (follows, (Book(), t, "a")),
                    (follows_from_others, (book, 0)), (lean, (book,)), (books_alike, (book, Book())),
                    (books_alike, (Book(), book)), (unlike_grant, (book, book)), (unlike_grant, (Book(), book)),
                ]:
                    self.refused(TooMany, TIES, function, *values)
                # The frames of the circles of other grants are not laid.
                self.assertIs(must_tell(book, eye("zz"), eye("zy")), True)
                self.assertIs(follows(book, eye("zz"), "zy"), True)
                self.assertIs(follows_from_others(book, 1), False)

    def test_257_ties_behind_an_unlike_grant(self):
        # The first grant makes the books unlike, but the circles of all grants are asked.
        great = Book((eye("a"), "b"), (with_ties(257), "c"))
        for first, second in [(great, Book()), (Book(), great), (great, great), (great, read("a > b"))]:
            self.refused(TooMany, TIES, unlike_grant, first, second)
            self.refused(TooMany, TIES, books_alike, first, second)
        self.refused(TooMany, TIES, lean, great)
        fits = Book((eye("a"), "b"), (with_ties(256), "c"))
        self.assertEqual([unlike_grant(fits, Book()), unlike_grant(Book(), fits)], [(0, 0), (1, 0)])
        self.assertEqual(lean(fits), fits)

    def test_grants_of_great_circles(self):
        book = Book((GREAT, "zz"), (eye("a"), "b"))
        self.assertIs(must_tell(book, eye("a"), eye("b")), True)
        self.assertIs(must_tell(book, eye("zz"), eye("a")), False)
        self.refused(TooMany, TIES, must_tell, book, GREAT, eye("a"))
        wide = pool(*eyes_to(60))
        self.assertIs(must_tell(Book((common(*eyes_to(60)), "zz")), wide, eye("zz")), True)
        self.assertEqual(told_among(Book((wide, "zz")), wide, eyes_to(60) + [eye("zz")]), list(range(61)))


class FollowsTest(RefusingTest):
    def test_follows(self):
        for book, t, _ in random_questions(471, 80):
            for name in ["a", "long", "z"]:
                self.assertIs(follows(book, t, name), must_tell(book, t, eye(name)))
                self.assertIs(follows(name=name, circle=t, book=book), must_tell(book, t, eye(name)))
        self.assertIs(follows(read("a > b, b > c"), eye("a"), "c"), True)
        self.assertIs(follows(Book(), eye("a"), "a"), True)
        self.assertIs(follows(Book(), eye("a"), "c"), False)

    def test_follows_from_others(self):
        for text, wanted in [("a > b", [False]), ("a > b, a > b", [True, True]),
                             ("a > b, b > c, a > c", [False, False, True]),
                             ("a > a", [True]), ("a & b > c, a > c", [True, False]),
                             ("a > b, b > a, a & c > b", [False, False, True])]:
            book = read(text)
            for at, follow in enumerate(wanted):
                self.assertIs(follows_from_others(book, at), follow, text)
                self.assertIs(follows_from_others(at=at, book=book), follow)
        for book, _, _ in random_questions(472, 60):
            for at, (circle, name) in enumerate(book):
                self.assertIs(follows_from_others(book, at), follows(book.without(at), circle, name))

    def test_wrong_names(self):
        for value in but_names():
            for circle in [eye("a"), GREAT]:
                self.refused(InvalidName, {"value": value}, follows, Book(), circle, value)
                self.refused(InvalidName, {"value": value}, follows, name=value, circle=circle, book=read("a > b"))
        self.refused(TooMany, TIES, follows, Book(), GREAT, "a")

    def test_unknown_grants(self):
        for many in [0, 1, 2]:
            book = Book(*[(GREAT, "zz")] * many)
            for value in but_numbers(0, many - 1):
                self.refused(UnknownGrant, {"at": value}, follows_from_others, book, value)
                self.refused(UnknownGrant, {"at": value}, follows_from_others, at=value, book=book)
        self.refused(TooMany, TIES, follows_from_others, book, 1)


class LeanTest(RefusingTest):
    def test_chosen_books(self):
        for text, wanted in [("", ""), ("a > b", "a > b"), ("a > b, a > b", "a > b"), ("a > a", ""),
                             ("a > c, a > b, b > c", "a > b, b > c"), ("a > b, b > c, a > c", "a > b, b > c"),
                             ("a > b, b > a, a & c > b, b | a > a", "a > b, b > a"),
                             ("a & b > c, a > c", "a > c"), ("a | b > c, b > c, a > c", "a | b > c"),
                             ("a > c, b > c, a | b > c", "a > c, b > c"), ("a & b > a, c > d", "c > d")]:
            self.assertEqual(lean(read(text)), read(wanted), text)
            self.assertEqual(lean(book=read(text)), read(wanted))

    def test_random_books(self):
        struck = 0
        for book, _, _ in random_questions(473, 80, 3, 7):
            leaned = lean(book)
            kept = list(range(len(book)))
            for at in reversed(range(len(book))):
                others = tuple(k for k in kept if k != at)
                circle, name = book.grants()[at]
                if follows(book.only(others), circle, name):
                    kept = list(others)
            self.assertEqual(leaned, book.only(tuple(kept)))
            self.assertTrue(books_alike(leaned, book))
            self.assertFalse(any(follows_from_others(leaned, at) for at in range(len(leaned))))
            self.assertEqual(lean(leaned), leaned)
            struck += len(book) - len(leaned)
        self.assertGreater(struck, 30)

    def test_too_many_ties(self):
        for book in [Book((GREAT, "zz")), Book((eye("a"), "b"), (GREAT, "a"), (eye("c"), "b")),
                     Book((GREAT, "zz"), (eye("a"), "b"))]:
            self.refused(TooMany, TIES, lean, book)
            for other in [Book(), read("x > y"), book]:
                for function in [books_alike, unlike_grant]:
                    self.refused(TooMany, TIES, function, book, other)
                    self.refused(TooMany, TIES, function, other, book)
                    self.refused(TooMany, TIES, function, second=book, first=other)


class AlikeTest(RefusingTest):
    def test_chosen_books(self):
        for first, second, wanted in [
            ("", "", None), ("a > b", "a > b", None), ("a > b", "", (0, 0)), ("", "a > b", (1, 0)), ("a > a", "", None),
            ("a > b, b > c", "b > c, a > c, a > b", None), ("a > b, c > d", "a > b", (0, 1)),
            ("a > b", "a > b, c > d, d > c", (1, 1)),
            ("a > b", "b > a", (0, 0)), ("a | b > c", "a > c, b > c", None), ("a & b > c", "a > c", (1, 0)),
            ("a > c", "a & b > c", (0, 0)), ("a > b, b > c, a > c", "a > b, c > b", (0, 1)),
        ]:
            for found in [unlike_grant(read(first), read(second)),
                          unlike_grant(second=read(second), first=read(first))]:
                self.assertEqual(found, wanted, (first, second))
                self.assertIs(type(found), type(wanted))
            self.assertIs(books_alike(read(first), read(second)), wanted is None)
            self.assertIs(books_alike(second=read(first), first=read(second)), wanted is None)

    def test_random_books(self):
        source = random.Random(474)
        found = []
        for _ in range(120):
            first = random_book(source, 4, 2)
            second = source.choice([random_book(source, 4, 2), lean(first), first + random_book(source, 2, 2), first])
            unlike = None
            for which, (book, other) in enumerate([(first, second), (second, first)]):
                for at, (circle, name) in enumerate(book):
                    if unlike is None and not follows(other, circle, name):
                        unlike = (which, at)
            self.assertEqual(unlike_grant(first, second), unlike)
            self.assertIs(books_alike(first, second), unlike is None)
            found.append(unlike)
        self.assertGreater(found.count(None), 30)
        self.assertGreater(sum(1 for unlike in found if unlike and unlike[0] == 1), 5)

    def test_alike_books_are_kept_by_the_same_worlds(self):
        source = random.Random(475)
        worlds = [world for world, _, _ in random_closings(476, 40, 4)]
        for _ in range(40):
            first = random_book(source, 4, 2)
            second = lean(first)
            for world in worlds:
                self.assertIs(first.kept_by(world), second.kept_by(world))
            for circle, name in itertools.islice(first, 2):
                self.assertTrue(follows(second, circle, name))


class GrantsForTest(RefusingTest):
    def test_eyes_and_pools(self):
        circle = read_circle("a | b")
        self.assertEqual(grants_for(circle, eye("c")), [(circle, "c")])
        self.assertEqual(grants_for(shown=read_circle("d & c & a"), circle=circle),
                         [(circle, "d"), (circle, "c"), (circle, "a")])
        self.assertEqual(grants_for(eye("a"), eye("a")), [(eye("a"), "a")])
        many = grants_for(circle, pool(*eyes_to(60)))
        self.assertEqual(many, [(circle, str(one)) for one in eyes_to(60)])
        many.clear()
        self.assertEqual(len(grants_for(circle, pool(*eyes_to(60)))), 60)
        self.assertEqual(len(grants_for(GREAT, eye("a"))), 1)

    def test_they_show_all_that_is_shown(self):
        source = random.Random(477)
        for _ in range(40):
            circle = random_circle(source, 3)
            shown = pool(*[eye(name) for name in source.sample(NAMES, source.randint(1, 4))])
            book = Book(*grants_for(circle, shown))
            self.assertTrue(must_tell(book, circle, shown))

    def test_others_are_refused(self):
        for text in ["a | b", "a & (b | c)", "(a & b) | c", "(a | b) & c", "(a | b) & (c | d)"]:
            self.refused(CommonShown, {"at": 0}, grants_for, eye("a"), read_circle(text))
            self.refused(CommonShown, {"at": 0}, grants_for, shown=read_circle(text), circle=GREAT)
