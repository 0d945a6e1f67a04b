"""Logs: walking and judging them."""

import random

from pooledeyes.books import Book
from pooledeyes.circles import eye
from pooledeyes.circletexts import read_circle
from pooledeyes.closings import closed_world, closing_log, is_log, walked
from pooledeyes.errors import InvalidLog
from pooledeyes.worlds import World
from tests.anyvalues import any_values, but_numbers
from tests.plainbooks import eye_relation
from tests.plainworlds import plain_relation
from tests.refusing import RefusingTest
from tests.test_closings import random_closings

WORLD = World(4, [("a", 1, 2), ("b", 2, 3)])
BOOK = Book.read("a > b\nb > c\na & c > d\n")


class LogTest(RefusingTest):
    def right(self, log, text):
        """A log is right, and behind it stands the world with a text."""
        self.assertEqual(walked(WORLD, BOOK, log).text(), text)
        self.assertEqual(walked(log=tuple(log), book=BOOK, world=WORLD).text(), text)
        self.assertIs(is_log(WORLD, BOOK, log), True)
        self.assertIs(is_log(WORLD, BOOK, tuple(log)), True)
        self.assertIs(is_log(value=log, book=BOOK, world=WORLD), True)

    def wrong(self, log, at):
        """A log is wrong from an index on."""
        self.refused(InvalidLog, {"at": at}, walked, WORLD, BOOK, log)
        self.refused(InvalidLog, {"at": at}, walked, log=log, book=BOOK, world=WORLD)
        self.assertIs(is_log(WORLD, BOOK, log), False)
        if isinstance(log, list):
            self.refused(InvalidLog, {"at": at}, walked, WORLD, BOOK, tuple(log))

    def test_right_logs(self):
        begun = "cases 4\na 1 1 3 4\nb 1 2 2 4\n"
        tied = "cases 4\na 1 1 3 4\nb 1 1 1 4\n"
        self.right([], begun)
        self.right([(0, 1, 2)], tied)
        self.right([(0, 2, 1)], tied)
        self.right([(0, 1, 2), (0, 1, 2), (0, 2, 1)], tied)
        self.right([(1, 3, 2)], begun + "c 1 2 2 4\n")
        self.right([(1, 2, 3), (0, 1, 2), (1, 1, 3)], tied + "c 1 1 1 4\n")
        self.right([(0, 1, 2), (1, 1, 2), (2, 1, 2)], tied + "c 1 1 3 4\nd 1 1 3 4\n")
        # What is alike to the eye already may stand, too.
        self.right([(0, 1, 2), (1, 1, 2), (1, 2, 1), (2, 2, 1), (0, 1, 2), (1, 3, 1)], tied + "c 1 1 1 4\nd 1 1 3 4\n")
        self.assertEqual(WORLD.text(), begun)

    def test_wrong_logs(self):
        self.wrong([(0, 1, 3)], 0)
        self.wrong([(2, 1, 2)], 0)
        self.wrong([(1, 1, 2)], 0)
        self.wrong([(0, 1, 2), (2, 1, 2)], 1)
        self.wrong([(1, 2, 3), (2, 2, 3)], 1)
        self.wrong([(0, 1, 2), (1, 1, 3), (2, 1, 3)], 2)
        self.wrong([(0, 1, 1)], 0)
        self.wrong([(0, 1, 2), (0, 4, 4)], 1)
        self.wrong([(0, 1, 2), (0, 1, 4), (7, 1, 2)], 1)

    def test_entries_of_another_form(self):
        # From behind, -3 would be the grant 0, and 0 would be the case 4.
        for entry in [(-3, 1, 2), (-2, 2, 3), (0, 0, 4), (0, 4, 0), (0, -3, 1), (0, 1, -2),
                      (), (0,), (0, 1), (0, 1, 2, 3), [0, 1, 2], (3, 1, 2), (-1, 1, 2), (0, 0, 1), (0, 1, 5), (0, 5, 1),
                      (0, -1, 2), (False, 1, 2), (0, True, 2), (0, 2, True), ("0", 1, 2), (0, "1", 2), (0, 1, "2"),
                      (None, 1, 2), (0, None, 2), (0, 1, None), ((0,), 1, 2), (0, (1, 2)), ((0, 1, 2),), (True, 2, 3),
                      (0.0, 1, 2), (0, 1.0, 2), (0, 10 ** 8, 1), (10 ** 8, 1, 2), 0, "012", None]:
            self.wrong([entry], 0)
            self.wrong([(0, 1, 2), (1, 1, 3), entry], 2)
            self.wrong([(0, 1, 2), entry, None], 1)

    def test_grants_counted_from_behind(self):
        for text, at in [("a > b\n", -1), ("a > b\nb > c\n", -2), ("b > c\na > b\n", -1)]:
            book = Book.read(text)
            self.refused(InvalidLog, {"at": 0}, walked, WORLD, book, [(at, 1, 2)])
            self.assertIs(is_log(WORLD, book, [(at, 1, 2)]), False)
            self.assertIs(is_log(WORLD, book, [(len(book) + at, 1, 2)]), True)

    def test_values_of_all_kinds(self):
        for value in any_values():
            if not isinstance(value, (list, tuple)):
                self.wrong(value, -1)
            elif len(value):
                self.wrong(value, 0)
            self.wrong([value], 0)
            self.wrong([(0, 1, 2), value, value], 1)
        for value in but_numbers(0, 2):
            self.wrong([(value, 1, 2)], 0)
        for value in but_numbers(1, 4):
            self.wrong([(0, value, 2)], 0)
            self.wrong([(0, 1, 2), (0, 2, value)], 1)

    def test_without_grants(self):
        for value in [[(0, 1, 2)], [(0, 1, 1)], [None]]:
            self.refused(InvalidLog, {"at": 0}, walked, WORLD, Book(), value)
            self.assertIs(is_log(WORLD, Book(), value), False)
        for value in [[], ()]:
            self.assertEqual(walked(WORLD, Book(), value), WORLD)
            self.assertIs(is_log(WORLD, Book(), value), True)
        self.assertIs(is_log(World(1), BOOK, []), True)
        self.refused(InvalidLog, {"at": 0}, walked, World(1), BOOK, [(0, 1, 1)])

    def test_a_grant_that_shows_its_own_eye(self):
        world = World(4, [("a", 1, 2), ("b", 2, 3), ("b", 1, 4)])
        book = Book((read_circle("a | b"), "a"))
        self.assertEqual(walked(world, book, [(0, 2, 3), (0, 4, 3)]).text(), "cases 4\na 1 1 1 1\nb 1 2 2 1\n")
        growing = Book((read_circle("a & c"), "b"), (eye("b"), "a"), (eye("b"), "c"))
        world = World(3, [("a", 1, 2), ("b", 2, 3)])
        self.refused(InvalidLog, {"at": 0}, walked, world, growing, [(0, 1, 3)])
        self.refused(InvalidLog, {"at": 1}, walked, world, growing, [(1, 2, 3), (0, 1, 3)])
        log = [(1, 2, 3), (2, 2, 3), (0, 2, 3)]
        self.assertEqual(walked(world, growing, log).text(), "cases 3\na 1 1 1\nb 1 2 2\nc 1 2 2\n")

    def test_each_beginning_of_a_log(self):
        for world, ties, book in random_closings(451, 60, 7):
            log = closing_log(world, book)
            behind = list(ties)
            for at in range(len(log) + 1):
                self.assertIs(is_log(world, book, log[:at]), True)
                self.assertEqual(walked(world, book, log[:at]), World(world.many, behind))
                if at < len(log):
                    behind.append((book.grants()[log[at][0]][1], log[at][1], log[at][2]))

    def test_random_entries(self):
        source = random.Random(452)
        found = []
        for world, ties, book in random_closings(453, 80, 5):
            behind, log, wrong = list(ties), [], None
            grants = book.grants()
            for at in range(12):
                entry = (source.randint(0, 4), source.randint(1, world.many), source.randint(1, world.many))
                log.append(entry)
                grant, u, v = entry
                right = grant < len(grants) and u != v and (u, v) in plain_relation(world.many, behind,
                                                                                    grants[grant][0])
                if not right and source.random() < 0.9:
                    log.pop()
                elif not right:
                    wrong = len(log) - 1
                    break
                else:
                    behind.append((grants[grant][1], u, v))
            found.append(wrong is None)
            self.assertIs(is_log(world, book, log), wrong is None)
            if wrong is None:
                self.assertEqual(walked(world, book, log), World(world.many, behind))
                for name in world.eyes():
                    self.assertLessEqual(eye_relation(world.many, ties, name), eye_relation(world.many, behind, name))
            else:
                self.refused(InvalidLog, {"at": wrong}, walked, world, book, log)
        self.assertGreater(found.count(True), 15)
        self.assertGreater(found.count(False), 15)

    def test_walked_is_never_more_than_the_closing(self):
        for world, ties, book in random_closings(454, 40, 6):
            log = closing_log(world, book)
            self.assertEqual(closed_world(walked(world, book, log[:len(log) // 2]), book), closed_world(world, book))
