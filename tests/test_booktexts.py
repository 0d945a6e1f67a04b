"""The texts of books."""

import random

from pooledeyes.books import Book
from pooledeyes.circles import eye
from pooledeyes.circletexts import read_circle
from pooledeyes.errors import InvalidText, TooMany
from tests.anyvalues import STRINGS, without_strings
from tests.making import deep_text, names_to
from tests.refusing import RefusingTest
from tests.test_books import random_book

EYES, DEPTH, GRANTS = [{"what": what, "most": most} for what, most in [("eyes", 60), ("depth", 20), ("grants", 12)]]
WIDE = " & ".join(names_to(61)) + " > a\n"
DEEP = deep_text(21) + " > a\n"


class TextTest(RefusingTest):
    def test_reading(self):
        for text, wanted in [("", []), ("a > b\n", [("a", "b")]),
                             ("a & b > c\na | b > c\n", [("a & b", "c"), ("a | b", "c")]),
                             ("a > a\na > a\n", [("a", "a")] * 2),
                             ("a & (b | sixsix) > abcdef\n", [("a & (b | sixsix)", "abcdef")])]:
            grants = [(read_circle(circle), name) for circle, name in wanted]
            for book in [Book.read(text), Book.read(text=text), Book().read(text)]:
                self.assertEqual(book.grants(), grants)
                self.assertEqual([book.text(), str(book)], [text, text])

    def test_any_circle_text_may_stand(self):
        book = Book.read("(a) & (b & a) > c\n((a)) > b\na | a > c\n(a & b) & (c & a) > d\n")
        self.assertEqual(book.text(), "a & b > c\na > b\na > c\na & b & c > d\n")
        self.assertEqual(Book.read("(" * 20 + "a" + ")" * 20 + " > b\n"), Book((eye("a"), "b")))

    def test_read_what_is_written(self):
        source = random.Random(421)
        for _ in range(150):
            book = random_book(source, 12, 9)
            self.assertEqual(Book.read(book.text()).grants(), book.grants())

    def test_12_lines(self):
        self.assertEqual(len(Book.read("a > b\n" * 12)), 12)
        self.refused(TooMany, GRANTS, Book.read, "a > b\n" * 13)
        self.refused(TooMany, GRANTS, Book.read, "a > b\nb > c\n" * 400)

    def test_values_that_are_no_strings(self):
        for value in without_strings():
            self.refused(InvalidText, {"at": -1}, Book.read, value)
            self.refused(InvalidText, {"at": -1}, Book.read, text=value)

    def test_lines_that_cannot_stand(self):
        for line in ["", " ", "a", "a >", "a > ", "a > B", "a > abcdefg", "> b", " > b", "a>b", "a> b", "a >b",
                     " a > b", "a > b ",
                     "a  > b", "a >  b", "a > b > c", "a > b & c", "a > (b)", "A > b", "a & > b", "a & b | c > d",
                     "(a > b",
                     "a) > b", "a > b\r", "a & b", "a < b", "a > 1", "a > b, c > d", "abcdefg > b",
                     "(" * 21 + "a" + ")" * 21 + " > b",
                     "a > b\t", "cases 3", "a  & b > c", "a > b > ", " > ", ">", "a | b & c > d", "a > a b"]:
            for before in range(3):
                text = "a > b\n" * before + line + "\n"
                self.refused(InvalidText, {"at": before}, Book.read, text)
                self.refused(InvalidText, {"at": before}, Book.read, text + "a > b\n")
                self.refused(InvalidText, {"at": before}, Book.read, text + "wrong\n" + line)
                if line:
                    self.refused(InvalidText, {"at": before}, Book.read, "a > b\n" * before + line)

    def test_lines_that_lack_their_line_feed(self):
        for text, at in [("a > b", 0), ("a > b\nb > c", 1), ("a > b\nb > c\n ", 2), ("a > b\n\n", 1), ("\n", 0),
                         ("\na > b\n", 0),
                         ("a > b\n\nb > c\n", 1), ("a", 0), (" ", 0), ("a > b\nx", 1)]:
            self.refused(InvalidText, {"at": at}, Book.read, text)
        for text in STRINGS:
            if text:
                self.refused(InvalidText, {"at": 0}, Book.read, text)

    def test_circles_that_are_too_great(self):
        self.refused(TooMany, EYES, Book.read, WIDE)
        self.refused(TooMany, DEPTH, Book.read, DEEP)
        for before in range(3):
            self.refused(TooMany, EYES, Book.read, "a > b\n" * before + WIDE + DEEP)
            self.refused(TooMany, DEPTH, Book.read, "a > b\n" * before + DEEP + WIDE)
        self.assertEqual(len(Book.read(" & ".join(names_to(60)) + " > a\n" + deep_text(20) + " > b\n")), 2)

    def test_the_order_of_the_errors(self):
        # Wrong lines, then circles that are too great, then too many grants.
        self.refused(InvalidText, {"at": 1}, Book.read, WIDE + "a > B\n")
        self.refused(InvalidText, {"at": 1}, Book.read, WIDE + "a > b")
        self.refused(InvalidText, {"at": 14}, Book.read, WIDE + "a > b\n" * 13 + "a >")
        self.refused(InvalidText, {"at": 0}, Book.read, WIDE[:-1])
        self.refused(InvalidText, {"at": 0}, Book.read, WIDE[:-2] + "A\n")
        self.refused(InvalidText, {"at": 13}, Book.read, "a > b\n" * 13 + "\n")
        self.refused(TooMany, EYES, Book.read, "a > b\n" * 13 + WIDE)
        self.refused(TooMany, DEPTH, Book.read, "a > b\n" * 20 + DEEP + WIDE)
        self.refused(TooMany, GRANTS, Book.read, "a > b\n" * 13)
