"""Closing worlds under books, and closing logs."""

import itertools
import random

from pooledeyes.books import Book
from pooledeyes.circles import common, eye, pool
from pooledeyes.circletexts import read_circle
from pooledeyes.closings import closed_world, closing_log, is_log, walked
from pooledeyes.frames import Frame
from pooledeyes.partings import all_partings, is_within, together
from pooledeyes.worlds import World
from tests.making import eyes_to, names_to
from tests.plainbooks import plain_closing
from tests.plainworlds import random_circle, random_ties
from tests.refusing import RefusingTest
from tests.test_books import NAMES, random_book


def random_closings(seed, count, most, grants=4):
    """A list of so many (world, ties, book) with up to so many cases and grants."""
    source = random.Random(seed)
    found = []
    for _ in range(count):
        many = source.randint(1, most)
        ties = random_ties(source, many, NAMES, source.randint(0, 2 * many))
        found.append((World(many, ties), ties, random_book(source, grants)))
    return found


def is_wider(first, second):
    """Whether the first of two worlds takes for alike all that the second one does."""
    return all(is_within(second.partings()[name], first.parting(eye(name))) for name in second.eyes())


class ClosedWorldTest(RefusingTest):
    def test_chosen_worlds(self):
        world = World(4, [("a", 1, 2), ("b", 2, 3)])
        for text, wanted in [("", "a 1 1 3 4\nb 1 2 2 4\n"), ("a > b\n", "a 1 1 3 4\nb 1 1 1 4\n"),
                             ("a > b\nb > a\n", "a 1 1 1 4\nb 1 1 1 4\n"), ("a & b > c\n", "a 1 1 3 4\nb 1 2 2 4\n"),
                             ("a | b > c\n", "a 1 1 3 4\nb 1 2 2 4\nc 1 1 1 4\n"),
                             ("c > d\na > c\n", "a 1 1 3 4\nb 1 2 2 4\nc 1 1 3 4\nd 1 1 3 4\n"),
                             ("b & c > a\na | b > c\n", "a 1 1 1 4\nb 1 2 2 4\nc 1 1 1 4\n"),
                             ("a > a\n", "a 1 1 3 4\nb 1 2 2 4\n")]:
            for closed in [closed_world(world, Book.read(text)), closed_world(book=Book.read(text), world=world)]:
                self.assertEqual(closed.text(), "cases 4\n" + wanted)
        self.assertEqual(world, World(4, [("a", 1, 2), ("b", 2, 3)]))

    def test_the_second_way(self):
        for world, ties, book in random_closings(431, 120, 6):
            log, behind = plain_closing(world.many, ties, book.grants())
            self.assertEqual(closing_log(world, book), log)
            self.assertEqual(closed_world(world, book), World(world.many, behind))

    def test_it_keeps_the_book_and_what_was_alike(self):
        changed = 0
        for world, ties, book in random_closings(432, 150, 12, 8):
            closed = closed_world(world, book)
            self.assertTrue(book.kept_by(closed))
            self.assertEqual(closed.many, world.many)
            self.assertTrue(is_wider(closed, world))
            self.assertIs(closed == world, book.kept_by(world))
            changed += closed != world
        self.assertGreater(changed, 40)

    def test_no_more_than_must_be(self):
        # All worlds of 3 cases with 3 eyes that keep the book and have what was alike have the closing, too.
        partings = list(all_partings(3))
        worlds = [World.parted(3, dict(zip("abc", rows))) for rows in itertools.product(partings, repeat=3)]
        source = random.Random(433)
        circles = [read_circle(text) for text in ["a", "b", "c", "a & b", "b | c", "a | b", "c & (a | b)",
                                                  "(a & c) | b"]]
        for _ in range(25):
            book = Book(*[(source.choice(circles), source.choice("abc")) for _ in range(source.randint(0, 3))])
            world = World(3, random_ties(source, 3, ["a", "b", "c"], source.randint(0, 3)))
            closed = closed_world(world, book)
            self.assertIn(closed, worlds)
            for other in worlds:
                if is_wider(other, world) and book.kept_by(other):
                    self.assertTrue(is_wider(other, closed))

    def test_closed_twice_is_closed_once(self):
        for world, ties, book in random_closings(434, 80, 8):
            closed = closed_world(world, book)
            self.assertEqual(closed_world(closed, book), closed)
            self.assertEqual(closing_log(closed, book), [])

    def test_the_order_of_the_grants_means_nothing(self):
        source = random.Random(435)
        for world, ties, book in random_closings(436, 60, 8):
            grants = book.grants()
            closed = closed_world(world, book)
            for order in itertools.islice(itertools.permutations(grants), 8):
                self.assertEqual(closed_world(world, Book(*order)), closed)
            source.shuffle(grants)
            self.assertEqual(closed_world(world, Book(*grants, *grants[:2])), closed)

    def test_more_ties_close_to_more(self):
        source = random.Random(437)
        for world, ties, book in random_closings(438, 80, 8):
            more = world
            for _ in range(3):
                more = more.tied(source.choice(NAMES), source.randint(1, world.many), source.randint(1, world.many))
            self.assertTrue(is_wider(closed_world(more, book), closed_world(world, book)))
            self.assertTrue(is_wider(closed_world(world, book.with_grant(random_circle(source, 3), "a")),
                                     closed_world(world, book)))

    def test_one_case_and_no_grants(self):
        for book in [Book(), Book.read("a > b\nb | c > a\n")]:
            self.assertEqual([closed_world(World(1), book), closing_log(World(1), book)], [World(1), []])
        for world, ties, book in random_closings(439, 20, 6):
            self.assertEqual([closed_world(world, Book()), closing_log(world, Book())], [world, []])

    def test_worlds_beside_one_another(self):
        for (first, _, book), (second, _, _) in zip(random_closings(440, 40, 5), random_closings(441, 40, 5)):
            self.assertEqual(closed_world(first + second, book), closed_world(first, book) + closed_world(second, book))

    def test_great_worlds(self):
        names = names_to(60)
        world = World(2400, [("a", case, case + 1) for case in range(1, 2400, 2)] +
                      [("b", case, case + 1) for case in range(2, 2400, 2)])
        book = Book((common(*eyes_to(60)), "zz"), (pool(eye("zz"), eye("a")), "b"))
        closed = closed_world(world, book)
        self.assertTrue(book.kept_by(closed))
        self.assertEqual([closed.parting(eye("zz")), closed.parting(eye("b"))], [together(2400), together(2400)])
        log = closing_log(world, book)
        self.assertEqual(log[:2399], [(0, 1, case) for case in range(2, 2401)])
        self.assertTrue(is_log(world, book, log) and walked(world, book, log) == closed)
        source = random.Random(442)
        world = World(300, random_ties(source, 300, names, 500))
        book = Book(*[(random_circle(source, 40), name) for name in NAMES * 2])
        self.assertTrue(book.kept_by(closed_world(world, book)))
        self.assertEqual(walked(world, book, closing_log(world, book)), closed_world(world, book))


class ClosingLogTest(RefusingTest):
    def test_chosen_logs(self):
        world = World(4, [("a", 1, 2), ("b", 2, 3), ("b", 3, 4)])
        for text, wanted in [
            ("", []), ("a > a\n", []), ("a > c\n", [(0, 1, 2)]), ("b > c\n", [(0, 2, 3), (0, 2, 4)]),
            ("a | b > a\n", [(0, 1, 3), (0, 1, 4)]),
            ("c > d\nb > c\n", [(1, 2, 3), (1, 2, 4), (0, 2, 3), (0, 2, 4)]),
            ("b > c\nc > d\n", [(0, 2, 3), (0, 2, 4), (1, 2, 3), (1, 2, 4)]),
            ("a > c\nb > c\n", [(0, 1, 2), (1, 2, 3), (1, 2, 4)]),
            ("b > a\na > b\n", [(0, 2, 3), (0, 2, 4), (1, 1, 2)]),
            ("a & b > c\n", []), ("z > a\n", []),
        ]:
            for log in [closing_log(world, Book.read(text)), closing_log(book=Book.read(text), world=world)]:
                self.assertEqual(log, wanted, text)

    def test_the_parting_of_the_beginning_of_a_turn(self):
        # The grant shows a what a and b have in common: what it makes alike counts from its next turn on.
        world = World(5, [("a", 1, 2), ("b", 3, 4), ("b", 2, 5)])
        book = Book.read("(a & c) | b > a\na > c\n")
        log, behind = plain_closing(5, [("a", 1, 2), ("b", 3, 4), ("b", 2, 5)], book.grants())
        self.assertEqual(closing_log(world, book), log)
        self.assertEqual(log, [(0, 2, 5), (0, 3, 4), (1, 1, 2), (1, 1, 5), (1, 3, 4)])

    def test_the_example_of_the_document(self):
        a, b, c = eye("a"), eye("b"), eye("c")
        world = World(6, [("a", 1, 4), ("b", 4, 5), ("a", 5, 6), ("b", 6, 2), ("a", 2, 3), ("c", 2, 3)])
        self.assertEqual(closing_log(world, Book((common(a, b), "c"))),
                         [(0, 1, 2), (0, 1, 4), (0, 1, 5), (0, 1, 6)])
        self.assertTrue(closed_world(world, Book((common(a, b), "c"))).alike(c, 1, 3))

    def test_entries_and_new_lists(self):
        for world, ties, book in random_closings(443, 60, 7):
            log = closing_log(world, book)
            self.assertIs(type(log), list)
            for entry in log:
                self.assertIs(type(entry), tuple)
                self.assertTrue(all(type(item) is int for item in entry))
                self.assertLess(entry[1], entry[2])
            log.append(None)
            self.assertEqual(closing_log(world, book), log[:-1])

    def test_behind_it_stands_the_closing(self):
        for world, ties, book in random_closings(444, 100, 9, 6):
            log = closing_log(world, book)
            self.assertIs(is_log(world, book, log), True)
            self.assertEqual(walked(world, book, log), closed_world(world, book))
            # Each entry makes something alike that was not so.
            for at in range(len(log)):
                grant, u, v = log[at]
                ahead = walked(world, book, log[:at])
                self.assertTrue(ahead.alike(book.grants()[grant][0], u, v))
                self.assertFalse(ahead.alike(eye(book.grants()[grant][1]), u, v))

    def test_logs_of_frames(self):
        source = random.Random(445)
        for _ in range(60):
            world = Frame(random_circle(source, 5)).world()
            book = random_book(source, 12)
            if world.many < 40:
                log = closing_log(world, book)
                self.assertEqual(walked(world, book, log), closed_world(world, book))
