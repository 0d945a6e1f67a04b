"""Books: what they tell, and the books that are made of them."""

import random

from pooledeyes.books import Book
from pooledeyes.circles import common, eye, pool
from pooledeyes.circletexts import read_circle
from pooledeyes.frames import Frame
from pooledeyes.puts import exchanged
from pooledeyes.worlds import World
from tests.anyvalues import any_values
from tests.making import all_circles, eyes_to, to_depth
from tests.plainworlds import plain_relation, random_circle, random_worlds
from tests.refusing import RefusingTest

NAMES = ["a", "b", "c", "d", "long", "sixsix"]


def grant(text, name):
    """The grant of a circle with a text."""
    return (read_circle(text), name)


def random_book(source, many, size=4):
    """A book of up to so many grants, some of them equal."""
    grants = [(random_circle(source, size), source.choice(NAMES)) for _ in range(source.randint(0, many))]
    if grants and len(grants) < many and source.random() < 0.4:
        grants.insert(source.randint(0, len(grants)), source.choice(grants))
    return Book(*grants)


class ToldTest(RefusingTest):
    def test_no_grants(self):
        book = Book()
        self.assertEqual([book.grants(), book.eyes(), len(book), book.text(), str(book), repr(book), list(book)],
                         [[], [], 0, "", "", "Book(0 grants)", []])
        self.assertIs(bool(book), True)
        self.assertTrue(book == Book())
        self.assertEqual([Book.LIMIT, book.LIMIT], [12, 12])

    def test_some_grants(self):
        grants = [grant("c & a", "b"), grant("(a & zz) | d", "a"), grant("c & a", "b")]
        book = Book(*grants)
        self.assertEqual([book.grants(), book.eyes(), len(book)], [grants, ["a", "b", "c", "d", "zz"], 3])
        text = "c & a > b\n(a & zz) | d > a\nc & a > b\n"
        self.assertEqual([book.text(), str(book), repr(book), list(book)], [text, text, "Book(3 grants)", grants])
        self.assertIs(bool(book), True)
        self.assertEqual(repr(Book(grants[0])), "Book(1 grants)")
        self.assertEqual(str(Book(grants[0])), "c & a > b\n")

    def test_shown_eyes_count(self):
        self.assertEqual(Book(grant("b", "a")).eyes(), ["a", "b"])
        self.assertEqual(Book(grant("b", "b")).eyes(), ["b"])
        self.assertEqual(Book(grant("b", "z"), grant("y & b", "ab")).eyes(), ["ab", "b", "y", "z"])

    def test_iterating(self):
        grants = [grant("a", "b"), grant("b", "c"), grant("a", "b")]
        book = Book(*grants)
        self.assertEqual([one for one in book], grants)
        self.assertEqual([(at, name) for at, (_, name) in enumerate(book)], [(0, "b"), (1, "c"), (2, "b")])
        self.assertIs(type(list(book)[0]), tuple)
        self.assertIn(grant("b", "c"), book)
        self.assertEqual([list(book), list(book)], [grants, grants])

    def test_lists_are_new(self):
        book = Book(grant("a", "b"))
        book.grants().append(grant("b", "c"))
        book.grants().clear()
        book.eyes().clear()
        self.assertEqual([book.grants(), book.eyes(), book.text()], [[grant("a", "b")], ["a", "b"], "a > b\n"])

    def test_12_grants(self):
        grants = [(common(eye("a"), eye(name)), name) for name in "bcdefghijklm"]
        book = Book(*grants)
        self.assertEqual([len(book), repr(book), book.grants()], [12, "Book(12 grants)", grants])
        self.assertEqual(Book(*[grant("a", "b")] * 12).grants(), [grant("a", "b")] * 12)

    def test_equal_books(self):
        source = random.Random(411)
        for _ in range(200):
            one, other = random_book(source, 2, 2), random_book(source, 2, 2)
            self.assertIs(one == other, one.text() == other.text())
            self.assertIs(one != other, one.text() != other.text())
            self.assertTrue(one == Book.read(one.text()))
        first, second = grant("a", "b"), grant("b", "a")
        self.assertFalse(Book(first, second) == Book(second, first))
        self.assertFalse(Book(first) == Book(first, first))
        self.assertFalse(Book(grant("a & b", "c")) == Book(grant("b & a", "c")))
        for value in any_values() + [[], (), "a > b\n", [first], (first,)]:
            if not isinstance(value, Book):
                self.assertIs(Book(first) == value, False)
                self.assertIs(value == Book(), False)


class MadeTest(RefusingTest):
    def setUp(self):
        self.grants = [grant("a", "b"), grant("b & c", "a"), grant("a", "b"), grant("d | a", "long")]
        self.book = Book(*self.grants)

    def tearDown(self):
        self.assertEqual(self.book.grants(), self.grants)

    def test_with_grant(self):
        circle = read_circle("x | y")
        for more in [self.book.with_grant(circle, "z"), self.book.with_grant(name="z", circle=circle)]:
            self.assertEqual(more.grants(), self.grants + [(circle, "z")])
        self.assertEqual(self.book.with_grant(eye("a"), "b").grants(), self.grants + [grant("a", "b")])
        self.assertEqual(Book().with_grant(eye("a"), "a").text(), "a > a\n")

    def test_without(self):
        for at in range(4):
            wanted = self.grants[:at] + self.grants[at + 1:]
            self.assertEqual(self.book.without(at).grants(), wanted)
            self.assertEqual(self.book.without(at=at).grants(), wanted)
        self.assertEqual(Book(grant("a", "b")).without(0), Book())

    def test_only(self):
        for lot in [(), (0,), (1,), (3,), (0, 1), (0, 3), (1, 2, 3), (0, 1, 2, 3)]:
            wanted = [self.grants[at] for at in lot]
            self.assertEqual(self.book.only(lot).grants(), wanted)
            self.assertEqual(self.book.only(lot=lot).grants(), wanted)
        self.assertEqual(Book().only(()), Book())

    def test_exchanged(self):
        wanted = "c > b\nb & a > c\nc > b\nd | c > long\n"
        for one in [self.book.exchanged("a", "c"), self.book.exchanged("c", "a"),
                    self.book.exchanged(second="c", first="a")]:
            self.assertEqual(one.text(), wanted)
        self.assertEqual(self.book.exchanged("long", "x").text(), "a > b\nb & c > a\na > b\nd | a > x\n")
        self.assertEqual(self.book.exchanged("b", "b"), self.book)
        self.assertEqual(self.book.exchanged("x", "y"), self.book)
        self.assertEqual(Book().exchanged("x", "y"), Book())
        source = random.Random(412)
        for _ in range(50):
            book = random_book(source, 5)
            first, second = source.choice(NAMES), source.choice(NAMES + ["x"])
            swapped = [(exchanged(circle, first, second), {first: second, second: first}.get(name, name))
                       for circle, name in book]
            self.assertEqual(book.exchanged(first, second).grants(), swapped)
            self.assertEqual(book.exchanged(first, second).exchanged(first, second), book)

    def test_sums(self):
        other = Book(grant("e", "f"), grant("a", "b"), grant("e", "f"), grant("a", "c"), grant("c & b", "a"))
        # What the first book has is left out, and the other one keeps its own equal grants.
        self.assertEqual((self.book + other).grants(), self.grants + [grant("e", "f"), grant("e", "f"), grant("a", "c"),
                                                                     grant("c & b", "a")])
        self.assertEqual((self.book + Book()).grants(), self.grants)
        self.assertEqual((Book() + self.book).grants(), self.grants)
        self.assertEqual((self.book + self.book).grants(), self.grants)
        self.assertEqual(other.grants()[0], grant("e", "f"))
        full = Book(*[(eye("a"), name) for name in "abcdefghijkl"])
        self.assertEqual(full + full.only((3, 5)), full)
        self.assertEqual(len(full.only((0, 1, 2)) + full), 12)

    def test_great_circles(self):
        for circle in [pool(*eyes_to(60)), common(*eyes_to(60)), to_depth(20, 60)]:
            book = Book((circle, "zzz"), (circle, "a"))
            self.assertEqual(Book.read(book.text()), book)
            self.assertEqual(book.eyes(), sorted(circle.eyes() + ["zzz"]))
            self.assertEqual(book.exchanged("a", "zzz").exchanged("a", "zzz"), book)


class KeptTest(RefusingTest):
    def test_first_unkept(self):
        world = World(3, [("a", 1, 2), ("b", 2, 3), ("c", 1, 2), ("c", 2, 3)])
        for texts, wanted in [([], None), ([("a", "c"), ("b", "c"), ("a | b", "c")], None),
                              ([("a", "c"), ("c", "a"), ("a", "b")], 1), ([("a", "b"), ("a", "c")], 0),
                              ([("a & b", "z"), ("a", "a"), ("z", "a"), ("a", "z")], 3), ([("z", "y")], None)]:
            book = Book(*[grant(text, name) for text, name in texts])
            self.assertIs(book.first_unkept(world), wanted)
            self.assertIs(book.first_unkept(world=world), wanted)
            self.assertIs(book.kept_by(world), wanted is None)
            self.assertIs(book.kept_by(world=world), wanted is None)

    def test_the_second_way(self):
        source = random.Random(413)
        found = []
        for world, ties in random_worlds(414, 80, 5):
            book = random_book(source, 3)
            kept = [plain_relation(world.many, ties, circle) <= plain_relation(world.many, ties, eye(name))
                    for circle, name in book]
            self.assertEqual(book.first_unkept(world), kept.index(False) if False in kept else None)
            self.assertIs(book.kept_by(world), False not in kept)
            found.append(False in kept)
        self.assertGreater(found.count(True), 20)
        self.assertGreater(found.count(False), 20)

    def test_worlds_beside_one_another(self):
        source = random.Random(415)
        worlds = [world for world, _ in random_worlds(416, 60, 5)]
        for first, second in zip(worlds, worlds[1:]):
            book = random_book(source, 3)
            self.assertIs(book.kept_by(first + second), book.kept_by(first) and book.kept_by(second))
            unkept = [at for at in [book.first_unkept(first), book.first_unkept(second)] if at is not None]
            self.assertEqual(book.first_unkept(first + second), min(unkept, default=None))

    def test_worlds_that_keep_all(self):
        source = random.Random(417)
        for _ in range(20):
            book = random_book(source, 6)
            self.assertTrue(book.kept_by(World(1)))
            self.assertTrue(book.kept_by(World(7)))
            self.assertTrue(book.kept_by(World.parted(4, {name: (1, 1, 1, 1) for name in NAMES})))
        for circle in all_circles("ab", 3):
            self.assertIs(Book((circle, "z")).kept_by(Frame(circle).world()), False)
