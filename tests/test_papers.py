"""Papers: what is told or untold, and what judges them."""

import random

from pooledeyes.books import Book
from pooledeyes.circles import eye
from pooledeyes.circletexts import read_circle
from pooledeyes.closings import closed_world, closing_log
from pooledeyes.errors import TooMany
from pooledeyes.frames import Frame, count_ties
from pooledeyes.musts import must_tell
from pooledeyes.papers import is_paper, paper_for
from pooledeyes.worlds import World
from tests.anyvalues import any_values, but_numbers
from tests.making import with_ties
from tests.plainframes import plain_frame
from tests.plainlogs import (is_number, log_changes, paper_changes, plain_alike, plain_keeps, plain_log_shows)
from tests.reading import book_of
from tests.refusing import RefusingTest
from tests.test_musts import random_questions

TIES = {"what": "ties", "most": 256}


def plain_is_paper(book, t, s, value):
    """Whether any value is a paper, by the words of the document and over pairs of cases."""
    if not isinstance(value, tuple) or not value or not isinstance(value[0], str):
        return False
    if value[0] == "told" and len(value) == 2:
        ties = plain_frame(t)
        return plain_log_shows(max(2, *[v for tie in ties for v in tie[1:]]), ties, book.grants(), value[1], s, 1, 2)
    if value[0] != "untold" or len(value) != 4 or not isinstance(value[1], World):
        return False
    _, world, u, v = value
    if not is_number(u, 1, world.many) or not is_number(v, 1, world.many):
        return False
    return plain_keeps(world, book.grants()) and plain_alike(world, t, u, v) and not plain_alike(world, s, u, v)


class PaperForTest(RefusingTest):
    def test_chosen_papers(self):
        told = paper_for(book_of("a > b, b > c"), eye("a"), eye("c"))
        self.assertEqual(told[0], "told")
        self.assertTrue(plain_is_paper(book_of("a > b, b > c"), eye("a"), eye("c"), told))
        untold = paper_for(book_of("a > b"), eye("a"), eye("c"))
        self.assertEqual(untold[0], "untold")
        self.assertTrue(plain_is_paper(book_of("a > b"), eye("a"), eye("c"), untold))
        self.assertEqual(paper_for(Book(), eye("a"), eye("a"))[0], "told")

    def test_told_exactly_if_it_must_be(self):
        words = []
        for book, t, s in random_questions(62, 120):
            paper = paper_for(book, t, s)
            self.assertEqual(paper[0], "told" if must_tell(book, t, s) else "untold")
            self.assertIs(is_paper(book, t, s, paper), True)
            self.assertEqual(paper_for(s=s, t=t, book=book), paper)
            if count_ties(t) < 8:
                self.assertTrue(plain_is_paper(book, t, s, paper))
            words.append(paper[0])
        self.assertGreater(min(words.count("told"), words.count("untold")), 10)

    def test_a_paper_is_new(self):
        book = book_of("a > b")
        paper_for(book, eye("a"), eye("b"))[1].clear()
        self.assertTrue(is_paper(book, eye("a"), eye("b"), paper_for(book, eye("a"), eye("b"))))

    def test_ties(self):
        for t in [with_ties(257), with_ties(258)]:
            self.refused(TooMany, TIES, paper_for, Book(), t, t)
            self.refused(TooMany, TIES, paper_for, Book(), t, eye("a"))
        great = with_ties(256)
        self.assertEqual(paper_for(Book(), great, great), ("told", []))
        self.assertEqual(paper_for(Book(), great, eye("zz"))[0], "untold")
        self.assertEqual(paper_for(Book(), eye("zz"), with_ties(257))[0], "untold")


class IsPaperTest(RefusingTest):
    def judged(self, book, t, s, value):
        """is_paper says what the plain judge says."""
        wanted = plain_is_paper(book, t, s, value)
        self.assertIs(is_paper(book, t, s, value), wanted, (book.text(), str(t), str(s), value))
        return wanted

    def test_any_values(self):
        for book, t, s in random_questions(63, 3, size=3):
            for value in any_values():
                self.assertIs(is_paper(book, t, s, value), False)
                self.assertIs(is_paper(book, t, s, ("told", value)), self.judged(book, t, s, ("told", value)))
                self.assertIs(is_paper(book, t, s, ("untold", value, 1, 2)), False)
        for value in but_numbers(1, 2):
            self.assertIs(is_paper(Book(), eye("a"), eye("b"), ("untold", World(2, [("a", 1, 2)]), 1, value)), False)
            self.assertIs(is_paper(Book(), eye("a"), eye("b"), ("untold", World(2, [("a", 1, 2)]), value, 1)), False)
        self.assertIs(is_paper(Book(), eye("a"), eye("b"), ("untold", World(2, [("a", 1, 2)]), 2, 1)), True)

    def test_changed_papers(self):
        source = random.Random(64)
        told = untold = wrong = 0
        for book, t, s in random_questions(65, 60, size=3):
            if count_ties(t) > 6:
                continue
            paper = paper_for(book, t, s)
            other = paper_for(book, s, t) if count_ties(s) < 7 else paper
            values = [paper, other] + paper_changes(paper)
            log = closing_log(Frame(t).world(), book)
            values += [("told", log) for log in log_changes(source, log)[:60]]
            closed = closed_world(Frame(t).world(), book)
            values += [("untold", world, u, v) for u, v in [(1, 2), (2, 1), (1, 1), (0, 1), (1, len(closed)), (2, 99)]
                       for world in [closed, Frame(t).world(), World(2), closed.tied("a", 1, 2), closed + closed]]
            for value in values:
                right = self.judged(book, t, s, value)
                told += right and value[0] == "told"
                untold += right and value[0] == "untold"
                wrong += not right
        self.assertGreater(min(told, untold, wrong), 40)

    def test_under_another_book(self):
        paper = paper_for(book_of("a > b, b > c"), eye("a"), eye("c"))
        for text, wanted in [("a > b, b > c", True), ("b > c, a > b", False), ("a > b", False), ("", False),
                             ("a > b, b > c, c > d", True), ("a > b, b | d > c", True), ("a > b, b & d > c", False)]:
            self.assertIs(is_paper(book_of(text), eye("a"), eye("c"), paper), wanted, text)
        paper = ("untold", World(2, [("a", 1, 2), ("b", 1, 2)]), 1, 2)
        for text, wanted in [("a > b", True), ("b > a", True), ("", True), ("a > c", False), ("c > a", True),
                             ("a & b > c", False), ("a & c > d", True)]:
            self.assertIs(is_paper(book_of(text), eye("a"), eye("c"), paper), wanted, text)
        self.assertIs(is_paper(Book(), eye("c"), eye("a"), paper), False)
        self.assertIs(is_paper(Book(), eye("b"), read_circle("a & c"), paper), True)
        self.assertIs(is_paper(value=paper, s=eye("c"), t=eye("a"), book=Book()), True)

    def test_logs_that_are_longer_or_shorter(self):
        book, a, c = book_of("a > b, b > c"), eye("a"), eye("c")
        for log, wanted in [([(0, 1, 2), (1, 1, 2)], True), (((0, 1, 2), (1, 1, 2)), True),
                            ([(0, 2, 1), (1, 1, 2)], True), ([(0, 1, 2)], False), ([(1, 1, 2)], False),
                            ([], False), ([(1, 1, 2), (0, 1, 2)], False),
                            ([(0, 1, 2), (0, 1, 2), (1, 2, 1)], True), ([(0, 1, 2), (1, 1, 2), (2, 1, 2)], False),
                            ([[0, 1, 2], (1, 1, 2)], False), ([(0, 1, 2), (1, 1, 3)], False)]:
            self.assertIs(is_paper(book, a, c, ("told", log)), wanted, log)

    def test_frames_with_257_ties(self):
        great = with_ties(257)
        for value in [("told", []), ("told", ()), ("told", None)]:
            self.assertIs(is_paper(Book(), great, great, value), False)
        self.assertIs(is_paper(Book(), with_ties(256), with_ties(256), ("told", [])), True)
        self.assertIs(is_paper(Book(), eye("a"), great, ("told", [])), False)
        ties = [(name, 1, 2) for name in great.eyes()]
        self.assertIs(is_paper(Book(), great, eye("zz"), ("untold", World(2, ties), 1, 2)), True)
        self.assertIs(is_paper(Book(), great, great, ("untold", World(2, ties), 1, 2)), False)
