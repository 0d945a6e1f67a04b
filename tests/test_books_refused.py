"""Books: what is refused, and in which order."""

from pooledeyes.books import Book
from pooledeyes.circles import Circle, eye
from pooledeyes.circletexts import read_circle
from pooledeyes.errors import InvalidGrant, InvalidLot, InvalidName, TooMany, UnknownGrant
from tests.anyvalues import any_values, but_names, but_numbers, without_circles
from tests.refusing import RefusingTest

A = eye("a")
GRANTS = {"what": "grants", "most": 12}


def full(many):
    """A book of so many unlike grants."""
    return Book(*[(eye(name), "z") for name in "abcdefghijkl"[:many]])


class RefusedTest(RefusingTest):
    def test_grants(self):
        right = (A, "b")
        wrong = any_values() + [(A,), (A, "b", "c"), [A, "b"], ("a", "b"), ("b", A), (A, A), (A, "B"), (A, None),
                                (A, ["b"]),
                                (None, "b"), ((A, "b"),), (A, "abcdefg"), (A, ""), ((A,), "b"), (A, True)]
        for value in wrong:
            self.refused(InvalidGrant, {"at": 0}, Book, value)
            self.refused(InvalidGrant, {"at": 2}, Book, right, right, value)
            self.refused(InvalidGrant, {"at": 1}, Book, right, value, None, value)
        for value in but_names():
            self.refused(InvalidGrant, {"at": 1}, Book, right, (A, value))
        for value in without_circles():
            self.refused(InvalidGrant, {"at": 1}, Book, right, (value, "a"))

    def test_13_grants(self):
        right = (A, "b")
        self.assertEqual(len(Book(*[right] * 12)), 12)
        for many in [13, 14, 30]:
            self.refused(TooMany, GRANTS, Book, *[right] * many)
            self.refused(InvalidGrant, {"at": many}, Book, *[right] * many, None)
        self.refused(InvalidGrant, {"at": 12}, Book, *[right] * 12, (A, "B"), right)

    def test_with_grant(self):
        for many in [0, 3, 11, 12]:
            book = full(many)
            for value in without_circles():
                self.refused(InvalidGrant, {"at": many}, book.with_grant, value, "a")
                self.refused(InvalidGrant, {"at": many}, book.with_grant, name="a", circle=value)
                self.refused(InvalidGrant, {"at": many}, book.with_grant, value, value)
            for value in but_names():
                self.refused(InvalidGrant, {"at": many}, book.with_grant, A, value)
            if many == 12:
                self.refused(TooMany, GRANTS, book.with_grant, A, "z")
            else:
                self.assertEqual(len(book.with_grant(A, "z")), many + 1)
            self.assertEqual(book, full(many))

    def test_without(self):
        for many in [0, 1, 3, 12]:
            for value in but_numbers(0, many - 1):
                self.refused(UnknownGrant, {"at": value}, full(many).without, value)
                self.refused(UnknownGrant, {"at": value}, full(many).without, at=value)

    def test_only(self):
        book = full(3)
        for value in any_values() + [[0], [0, 1], {0: 1}, "012"]:
            if not isinstance(value, tuple):
                self.refused(InvalidLot, {"at": -1}, book.only, value)
                self.refused(InvalidLot, {"at": -1}, book.only, lot=value)
            if value not in (0, 1, 2) or isinstance(value, bool):
                self.refused(InvalidLot, {"at": 0}, book.only, (value,))
                self.refused(InvalidLot, {"at": 1}, book.only, (0, value, value))
        for lot, at in [((3,), 0), ((-1,), 0), ((0, 0), 1), ((1, 0), 1), ((0, 2, 1), 2), ((0, 1, 2, 3), 3), ((2, 3), 1),
                        ((0, 1, 1), 2), ((True,), 0), ((0, True), 1), ((False, 1), 0), ((0, 2, 2, None), 2),
                        (("0",), 0), (((0,),), 0), ((0, None, 7), 1), ((1, -1), 1)]:
            self.refused(InvalidLot, {"at": at}, book.only, lot)
        self.refused(InvalidLot, {"at": 0}, Book().only, (0,))
        self.refused(InvalidLot, {"at": -1}, Book().only, [])
        self.assertEqual(book.only((0, 1, 2)), book)

    def test_exchanged(self):
        for book in [Book(), full(3)]:
            for value in but_names():
                for other in ["a", "B", None]:
                    self.refused(InvalidName, {"value": value}, book.exchanged, value, other)
                    self.refused(InvalidName, {"value": value}, book.exchanged, second=other, first=value)
                self.refused(InvalidName, {"value": value}, book.exchanged, "a", value)

    def test_sums(self):
        more = Book((A, "y"), (A, "x"))
        self.assertEqual(len(full(10) + more), 12)
        self.refused(TooMany, GRANTS, full(11).__add__, more)
        self.refused(TooMany, GRANTS, more.__add__, full(11))
        self.refused(TooMany, GRANTS, full(12).__add__, Book((A, "y")))
        self.refused(TooMany, GRANTS, Book((A, "y")).__add__, full(12))
        self.assertEqual(full(12) + full(5), full(12))

    def test_sums_with_what_is_no_book(self):
        for value in any_values():
            if not isinstance(value, Book):
                with self.assertRaises(TypeError):
                    Book() + value

    def test_a_refused_call_changes_nothing(self):
        book = full(12)
        text = book.text()
        self.refused(TooMany, GRANTS, book.with_grant, A, "q")
        self.refused(UnknownGrant, {"at": 12}, book.without, 12)
        self.refused(InvalidLot, {"at": 1}, book.only, (1, 1))
        self.assertEqual(book.text(), text)
        self.assertIsInstance(book.grants()[0][0], Circle)
        self.assertEqual(book.grants()[0][0], read_circle("a"))
