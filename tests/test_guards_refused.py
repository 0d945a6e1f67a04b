"""Guards: what is refused, and in which order."""

from pooledeyes.books import Book
from pooledeyes.circles import eye
from pooledeyes.circletexts import read_circle
from pooledeyes.errors import InvalidBan, InvalidName, NotSafe, TooMany, UnknownBan
from pooledeyes.guards import Guard
from tests.anyvalues import any_values, but_names, but_numbers, without_circles
from tests.making import with_ties
from tests.reading import bans_of, book_of, guard_of
from tests.refusing import RefusingTest
from tests.test_lots import WAYS

A, B = eye("a"), eye("b")
BANS = {"what": "bans", "most": 8}
TIES = {"what": "ties", "most": 256}
GRANTS = {"what": "grants", "most": 8}
GREAT = with_ties(257)


class RefusedTest(RefusingTest):
    def test_bans(self):
        right = (A, B)
        wrong = any_values() + [(A,), (A, B, A), [A, B], ("a", "b"), (A, "b"), ("a", B), ((A, B),), (A, None), (A, [B])]
        for value in wrong:
            self.refused(InvalidBan, {"at": 0}, Guard, Book(), value)
            self.refused(InvalidBan, {"at": 2}, Guard, Book(), right, right, value)
            self.refused(InvalidBan, {"at": 1}, Guard, Book(), right, value, None)
            self.refused(InvalidBan, {"at": 1}, Guard, Book(), (GREAT, B), value)
        for value in without_circles():
            self.refused(InvalidBan, {"at": 1}, Guard, Book(), right, (A, value))
            self.refused(InvalidBan, {"at": 1}, Guard, Book(), right, (value, A))

    def test_9_bans(self):
        right = (A, B)
        self.assertEqual(len(Guard(Book(), *[right] * 8)), 8)
        for many in [9, 10, 20]:
            self.refused(TooMany, BANS, Guard, Book(), *[right] * many)
            self.refused(TooMany, BANS, Guard, Book(), *[(GREAT, B)] * many)
            self.refused(InvalidBan, {"at": many}, Guard, Book(), *[right] * many, None)
        self.refused(InvalidBan, {"at": 8}, Guard, Book(), *[right] * 8, (A, "b"))

    def test_257_ties(self):
        for bans in [[(GREAT, A)], [(A, B), (GREAT, A)], [(A, B)] * 7 + [(GREAT, A)]]:
            self.refused(TooMany, TIES, Guard, Book(), *bans)
        # Those of q have no bound, and the ties of several bans are not added up.
        self.assertEqual(len(Guard(Book(), *[(with_ties(256), GREAT)] * 8)), 8)

    def test_with_ban(self):
        for many in [0, 3, 7, 8]:
            guard = Guard(Book(), *[(A, B)] * many)
            for value in without_circles():
                self.refused(InvalidBan, {"at": many}, guard.with_ban, value, A)
                self.refused(InvalidBan, {"at": many}, guard.with_ban, GREAT, value)
                self.refused(InvalidBan, {"at": many}, guard.with_ban, other=value, one=value)
            if many == 8:
                self.refused(TooMany, BANS, guard.with_ban, A, B)
                self.refused(TooMany, BANS, guard.with_ban, GREAT, B)
            else:
                self.refused(TooMany, TIES, guard.with_ban, GREAT, B)
                self.assertEqual(len(guard.with_ban(A, GREAT)), many + 1)
            self.assertEqual(guard, Guard(Book(), *[(A, B)] * many))

    def test_without_ban(self):
        for many in [0, 1, 3, 8]:
            for value in but_numbers(0, many - 1):
                self.refused(UnknownBan, {"at": value}, Guard(Book(), *[(A, B)] * many).without_ban, value)

    def test_one_world(self):
        for book, bans, at in [("", "a ! a", 0), ("", "a ! b, b ! b, a ! a", 1),
                               ("a > b, b > c", "a ! d, b ! a, a ! c", 2), ("a > b", "b ! a, a ! b, b ! b", 1)]:
            guard = guard_of(book, bans)
            self.refused(NotSafe, {"at": at}, guard.one_world)
            self.assertEqual(guard.first_broken(), at)

    def test_lots_of_9_grants(self):
        for many in [9, 12]:
            book = Book(*book_of(WAYS).grants(), *[(A, "b")] * (many - 8))
            for bans in ["", "a ! z", "a ! a"]:
                guard = Guard(book, *bans_of(bans))
                self.refused(TooMany, GRANTS, guard.unsafe_lots)
                self.refused(TooMany, GRANTS, guard.safe_lots)

    def test_names(self):
        guard = guard_of("a > b", "a ! c")
        questions = [(GREAT, A)]
        for value in but_names():
            self.refused(InvalidName, {"value": value}, guard.may_add, A, value)
            self.refused(InvalidName, {"value": value}, guard.gains, A, value, questions)
            self.refused(InvalidName, {"value": value}, guard.gains, A, value, [])

    def test_questions_with_257_ties(self):
        guard = guard_of("a > b", "a ! c")
        for questions in [[(GREAT, A)], [(A, B), (GREAT, GREAT)], [(A, B)] * 30 + [(GREAT, A), (A, A)]]:
            kept = list(questions)
            self.refused(TooMany, TIES, guard.gains, A, "c", questions)
            self.assertEqual(questions, kept)
        self.assertEqual(guard.gains(A, "zz", [(with_ties(256), GREAT), (A, read_circle("zz & b"))]), [1])
