"""Lots of grants that bring that one circle must tell another one."""

import itertools
import random

from pooledeyes.books import Book
from pooledeyes.circles import eye
from pooledeyes.circletexts import read_circle
from pooledeyes.errors import InvalidLot, TooMany
from pooledeyes.lots import brings, least_lots
from pooledeyes.musts import must_tell
from pooledeyes.tables import table_tells
from tests.anyvalues import any_values, but_numbers
from tests.making import with_ties
from tests.plainworlds import random_circle
from tests.reading import book_of
from tests.refusing import RefusingTest
from tests.test_musts import random_questions

GRANTS = {"what": "grants", "most": 8}
TIES = {"what": "ties", "most": 256}
# Four ways from a to z of two grants each, of which one needs b, too.
WAYS = "a > c, c > z, a > d, d > z, a > e, e > z, a & b > f, f > z"


def all_lots(many):
    """All lots of so many grants, by size."""
    return [lot for count in range(many + 1) for lot in itertools.combinations(range(many), count)]


def plain_least(many, holds):
    """The least lots for which something holds, by their definition."""
    good = [lot for lot in all_lots(many) if holds(lot)]
    return [lot for lot in good if not any(set(other) < set(lot) for other in good)]


class LeastLotsTest(RefusingTest):
    def least(self, book, t, s, wanted):
        self.assertEqual(least_lots(book_of(book), read_circle(t), read_circle(s)), wanted, (book, t, s))

    def test_chosen_books(self):
        self.least("", "a", "a", [()])
        self.least("", "a", "b", [])
        self.least("a > b", "a", "b", [(0,)])
        self.least("a > b", "a", "a | b", [()])
        self.least("a > b", "b", "a", [])
        self.least("a > b, a > b", "a", "b", [(0,), (1,)])
        self.least("a > b, b > c", "a", "c", [(0, 1)])
        self.least("b > c, a > b, a > c", "a", "c", [(2,), (0, 1)])
        self.least("a > c, b > c", "a | b", "c", [(0, 1)])
        self.least("a > c, b > c", "a & b", "c", [(0,), (1,)])
        self.least("a | b > c", "a & d", "c", [(0,)])
        self.least("a & b > c", "a & d", "c", [])
        self.least("a | b > c, c & d > a", "b & d", "a", [(0, 1)])

    def test_8_grants(self):
        self.least(WAYS, "a", "z", [(0, 1), (2, 3), (4, 5)])
        self.least(WAYS, "a & b", "z", [(0, 1), (2, 3), (4, 5), (6, 7)])
        self.least(WAYS, "c", "z", [(1,)])
        self.least(WAYS, "b", "z", [])
        self.least(WAYS, "c | d | e | f", "z", [(1, 3, 5, 7)])
        self.least(WAYS, "a", "c & d & e", [(0, 2, 4)])
        self.least(WAYS, "a & b", "c & d & e & f", [(0, 2, 4, 6)])
        self.least(WAYS, "a & b", "c & d & e & f & z", [(0, 1, 2, 4, 6), (0, 2, 3, 4, 6), (0, 2, 4, 5, 6),
                                                        (0, 2, 4, 6, 7)])

    def test_by_definition(self):
        seen = set()
        source = random.Random(54)
        small = [(Book(*[(random_circle(source, 2), source.choice("abcd")) for _ in range(6)]), eye("a"), eye("b"))
                 for _ in range(60)]
        for book, t, s in random_questions(52, 60, grants=5) + small:
            wanted = plain_least(len(book), lambda lot: table_tells(book.only(lot), t, s))
            found = least_lots(book, t, s)
            self.assertEqual(found, wanted)
            self.assertEqual(found == [()], must_tell(Book(), t, s))
            self.assertEqual(found == [], not must_tell(book, t, s))
            seen.add(min(len(found), 2))
        self.assertEqual(seen, {0, 1, 2})

    def test_new_lists(self):
        book = book_of("a > b")
        found = least_lots(book, eye("a"), eye("b"))
        found.append("x")
        self.assertEqual(least_lots(s=eye("b"), t=eye("a"), book=book), [(0,)])

    def test_too_many(self):
        full = book_of(WAYS)
        for many in [9, 12]:
            book = Book(*full.grants(), *[(eye("a"), "b")] * (many - 8))
            self.refused(TooMany, GRANTS, least_lots, book, eye("a"), eye("a"))
            self.refused(TooMany, GRANTS, least_lots, book, with_ties(257), eye("a"))
        self.refused(TooMany, TIES, least_lots, full, with_ties(257), eye("a"))
        self.refused(TooMany, TIES, least_lots, Book(), with_ties(257), with_ties(257))
        self.assertEqual(least_lots(full, with_ties(256), with_ties(256)), [()])
        self.assertEqual(least_lots(full, eye("x"), with_ties(257)), [])


class BringsTest(RefusingTest):
    def test_each_lot(self):
        for book, t, s in random_questions(53, 40, grants=4):
            for lot in all_lots(len(book)):
                self.assertIs(brings(book, lot, t, s), table_tells(book.only(lot), t, s))

    def test_books_with_many_grants(self):
        book = Book(*book_of(WAYS).grants(), *[(eye(name), "z") for name in "ghij"])
        self.assertEqual(len(book), 12)
        self.assertIs(brings(book, (0, 1, 11), eye("a"), eye("z")), True)
        self.assertIs(brings(book, (0, 11), eye("a"), eye("z")), False)
        self.assertIs(brings(book, (11,), eye("j"), eye("z")), True)
        self.assertIs(brings(book, tuple(range(12)), read_circle("g | h | i | j"), eye("z")), True)
        self.assertIs(brings(book, (8, 9, 10), read_circle("g | h | i | j"), eye("z")), False)
        self.assertIs(brings(s=eye("a"), t=eye("a"), lot=(), book=book), True)

    def test_refused(self):
        book = book_of(WAYS)
        t, s = with_ties(257), eye("z")
        for value in any_values():
            if not isinstance(value, tuple):
                self.refused(InvalidLot, {"at": -1}, brings, book, value, eye("a"), s)
                self.refused(InvalidLot, {"at": -1}, brings, book, value, t, s)
        for value in but_numbers(0, 7):
            self.refused(InvalidLot, {"at": 0}, brings, book, (value, 1), t, s)
        for value in but_numbers(3, 7):
            self.refused(InvalidLot, {"at": 1}, brings, book, (2, value, 4, 3), t, s)
        self.refused(TooMany, TIES, brings, book, (0, 7), t, s)
        self.refused(TooMany, TIES, brings, book, (), t, t)
        self.assertIs(brings(book, (), with_ties(256), s), False)
