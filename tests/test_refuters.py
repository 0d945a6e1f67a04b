"""All worlds of so many cases, and least worlds that refute."""

import itertools
import random

from pooledeyes.books import Book
from pooledeyes.circles import common, eye, pool
from pooledeyes.circletexts import read_circle
from pooledeyes.errors import InvalidEyes, InvalidNumber, TooMany
from pooledeyes.musts import must_tell
from pooledeyes.partings import all_partings
from pooledeyes.refuters import all_worlds, least_refuter
from pooledeyes.worlds import World
from tests.anyvalues import any_values, but_names, but_numbers
from tests.making import eyes_to, names_to
from tests.reading import book_of
from tests.refusing import RefusingTest
from tests.test_books import random_book
from tests.plainworlds import random_circle

WORLDS = {"what": "worlds", "most": 4000}


def first_of(many, eyes):
    """The first item of the generator."""
    return next(iter(all_worlds(many, eyes)))


def plain_worlds(many, names):
    """All worlds in the order of the document, made by the product of the partings."""
    rows = itertools.product(list(all_partings(many)), repeat=len(names))
    return [World.parted(many, dict(zip(names, row))) for row in rows]


class AllWorldsTest(RefusingTest):
    def test_the_order(self):
        texts = [world.text() for world in all_worlds(2, ["b", "a"])]
        self.assertEqual(texts, ["cases 2\na 1 1\nb 1 1\n", "cases 2\nb 1 1\n", "cases 2\na 1 1\n", "cases 2\n"])
        partings = [world.parting(eye("a")) for world in all_worlds(3, ["a"])]
        self.assertEqual(partings, [(1, 1, 1), (1, 1, 3), (1, 2, 1), (1, 2, 2), (1, 2, 3)])

    def test_against_the_product(self):
        for many, names in [(1, []), (4, []), (1, ["a", "b"]), (2, ["c", "a", "b"]), (3, ["b", "a", "long"]),
                            (4, ["sixsix", "a"])]:
            self.assertEqual(list(all_worlds(many, names)), plain_worlds(many, names))

    def test_how_many(self):
        for many, choices in [(1, 1), (2, 2), (3, 5), (4, 15)]:
            for eyes in range(9):
                if choices ** eyes <= 4000:
                    worlds = list(all_worlds(many, names_to(eyes)))
                    self.assertEqual(len(worlds), choices ** eyes)
                    self.assertEqual(len({world.text() for world in worlds}), choices ** eyes)
                    self.assertEqual({world.many for world in worlds}, {many})

    def test_a_new_start_each_time(self):
        names = ["a", "b"]
        first, second = iter(all_worlds(2, names)), iter(all_worlds(eyes=tuple(names), many=2))
        self.assertEqual([next(first).text(), next(first).text(), next(second).text()],
                         ["cases 2\na 1 1\nb 1 1\n", "cases 2\na 1 1\n", "cases 2\na 1 1\nb 1 1\n"])
        self.assertEqual(list(all_worlds(2, names)), list(all_worlds(2, tuple(names))))
        self.assertEqual(names, ["a", "b"])

    def test_refused_at_the_first_item(self):
        for value in [None, "a", 0, 5]:
            all_worlds(value, value)
        all_worlds(4, names_to(8))

    def test_wrong_numbers(self):
        for value in but_numbers(1, 4):
            self.refused(InvalidNumber, {"value": value}, first_of, value, ["a"])
            self.refused(InvalidNumber, {"value": value}, first_of, value, None)
            self.refused(InvalidNumber, {"value": value}, first_of, value, names_to(8))

    def test_wrong_eyes(self):
        right = [(), [], ("a",), ["a"], ("a", "b")]
        wrong = [value for value in any_values() if value not in right]
        wrong += [["a", "a"], ("b", "a", "b"), names_to(9), tuple(names_to(9)), ["a", "B"], [["a"]], {"a": 1}]
        for many in [1, 2, 4]:
            for value in wrong:
                self.refused(InvalidEyes, {}, first_of, many, value)
            for value in but_names():
                self.refused(InvalidEyes, {}, first_of, many, ["a", value])

    def test_too_many_worlds(self):
        for many, eyes in [(3, 6), (3, 8), (4, 4), (4, 8)]:
            self.refused(TooMany, WORLDS, first_of, many, names_to(eyes))
            self.refused(InvalidEyes, {}, first_of, many, names_to(eyes - 1) + ["a"])
        for many, eyes in [(1, 8), (2, 8), (3, 5), (4, 3)]:
            self.assertEqual(first_of(many, names_to(eyes)).eyes(), names_to(eyes) if many > 1 else [])


class LeastRefuterTest(RefusingTest):
    def right(self, found, t, s, book, most):
        """A refuter refutes, keeps the book, has no more cases than asked, and no lesser world refutes."""
        world, u, v = found
        self.assertIsInstance(found, tuple)
        self.assertTrue(book.kept_by(world))
        self.assertTrue(world.alike(t, u, v) and not world.alike(s, u, v))
        self.assertLessEqual(world.many, most)
        if world.many > 1:
            self.assertIsNone(self.plain(t, s, book, world.many - 1))

    def plain(self, t, s, book, most):
        """Some refuter, found by looking at all worlds."""
        names = sorted(set(t.eyes() + s.eyes() + book.eyes()))
        for many in range(1, most + 1):
            for world in plain_worlds(many, names):
                if book.kept_by(world) and not world.tells(t, s):
                    return world
        return None

    def test_chosen_ones(self):
        for t, s, book, cases in [("a", "b", "", 2), ("a | b", "a", "", 2), ("a & (b | c)", "(a & b) | (a & c)", "", 3),
                                  ("a", "a", "", None), ("a & b", "a", "", None), ("a", "b", "a > b", None),
                                  ("a", "c", "a > b", 2), ("a & b", "c", "a | b > c", None),
                                  ("a | b", "c", "a & b > c", 2), ("a | b", "c", "a > c", 2),
                                  ("a | b", "c", "a > c, b > c", None),
                                  ("(a | b) & (b | c) & (c | a)", "(a & b) | (b & c) | (c & a)", "", 3)]:
            found = least_refuter(read_circle(t), read_circle(s), under=book_of(book))
            if cases is None:
                self.assertIsNone(found, (t, s, book))
            else:
                self.assertEqual(found[0].many, cases, (t, s, book))
                self.right(found, read_circle(t), read_circle(s), book_of(book), 3)

    def test_most(self):
        t, s = read_circle("a & (b | c)"), read_circle("(a & b) | (a & c)")
        self.assertIsNone(least_refuter(t, s, most=1))
        self.assertIsNone(least_refuter(t, s, most=2))
        for found in [least_refuter(t, s), least_refuter(t, s, most=3), least_refuter(t, s, most=4),
                      least_refuter(s=s, t=t, under=None), least_refuter(t, s, under=Book())]:
            self.right(found, t, s, Book(), 3)

    def test_four_cases(self):
        # A path of b, c, b between the ends takes four cases.
        t, s = read_circle("a & (b | c)"), read_circle("b | (c & (a | b))")
        self.assertIsNone(least_refuter(t, s))
        found = least_refuter(t, s, most=4)
        if found is not None:
            self.right(found, t, s, Book(), 4)
        self.assertEqual(found is None, self.plain(t, s, Book(), 4) is None)

    def test_one_case_refutes_nothing(self):
        self.assertIsNone(least_refuter(eye("a"), eye("b"), most=1))
        self.assertIsNone(least_refuter(pool(*eyes_to(60)), common(*eyes_to(60)), most=1))

    def test_against_all_worlds(self):
        source = random.Random(51)
        seen = set()
        chosen = [(read_circle("a & (b | c)"), read_circle("(a & b) | c"), book_of(text)) for text in
                  ["", "a > b", "b & c > a", "b | c > a", "a & b > c", "a & c > b"]]
        chosen += [(read_circle("a & (b | c)"), read_circle("(a & b) | (a & c)"), book_of(text)) for text in
                   ["", "a > b", "b & c > a", "b | c > a", "a & b > c", "a & c > b"]]
        for t, s, book in chosen + [(random_circle(source, 4), random_circle(source, 4), random_book(source, 2))
                                    for _ in range(100)]:
            names = set(t.eyes() + s.eyes() + book.eyes())
            most = 3 if len(names) <= 3 else 2
            found = least_refuter(t, s, under=book, most=most)
            seen.add(found and found[0].many)
            if found is None:
                self.assertIsNone(self.plain(t, s, book, most))
            else:
                self.right(found, t, s, book, most)
                self.assertFalse(must_tell(book, t, s))
            if must_tell(book, t, s):
                self.assertIsNone(found)
            again = least_refuter(t, s, under=book, most=most)
            self.assertEqual(again, found)
        self.assertEqual(seen, {None, 2, 3})

    def test_wrong_numbers(self):
        for value in but_numbers(1, 4):
            self.refused(InvalidNumber, {"value": value}, least_refuter, eye("a"), eye("b"), most=value)
            self.refused(InvalidNumber, {"value": value}, least_refuter, pool(*eyes_to(60)), eye("b"), most=value)

    def test_too_many_worlds(self):
        for most, eyes in [(2, 12), (2, 60), (3, 6), (4, 4)]:
            t = pool(*eyes_to(eyes))
            # Also where nothing or little needs to be looked at.
            self.refused(TooMany, WORLDS, least_refuter, t, t, most=most)
            self.refused(TooMany, WORLDS, least_refuter, eye("a"), t, most=most)
            self.refused(TooMany, WORLDS, least_refuter, common(*eyes_to(eyes)), eye("a"), most=most)
            less = pool(*eyes_to(eyes - 1))
            if eyes < 60:
                self.assertIsNone(least_refuter(less, eye("a"), most=most))
            self.refused(TooMany, WORLDS, least_refuter, less, eye("zz"), most=most)
            self.refused(TooMany, WORLDS, least_refuter, less, less, under=Book((eye("a"), "zz")), most=most)
            self.refused(TooMany, WORLDS, least_refuter, less, less, under=Book((eye("zz"), "a")), most=most)
        self.refused(TooMany, WORLDS, least_refuter, pool(*eyes_to(6)), eye("a"))
        self.assertIsNone(least_refuter(pool(*eyes_to(5)), eye("a")))
        self.assertIsNone(least_refuter(pool(*eyes_to(11)), eye("a"), most=2))
        found = least_refuter(common(*eyes_to(11)), eye("a"), most=2)
        self.assertEqual(found[0].many, 2)
        self.assertIsNone(least_refuter(eye("a"), eye("b"), under=Book((eye("c"), "d")), most=1))
