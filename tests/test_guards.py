"""Guards: broken bans, safe and unsafe lots, and what may be added."""

import random

from pooledeyes.books import Book
from pooledeyes.circles import eye
from pooledeyes.circletexts import read_circle
from pooledeyes.guards import Guard
from pooledeyes.musts import closed_frame, must_tell
from pooledeyes.tables import table_tells
from pooledeyes.worlds import World
from tests.making import with_ties
from tests.plainworlds import random_circle
from tests.reading import bans_of, book_of, guard_of
from tests.refusing import RefusingTest
from tests.test_books import random_book
from tests.test_lots import WAYS, all_lots, plain_least


def random_guards(seed, count, grants=4, bans=3):
    """So many random guards with small circles."""
    source = random.Random(seed)
    return [Guard(random_book(source, grants), *[(random_circle(source, 4), random_circle(source, 4))
                                                 for _ in range(source.randint(0, bans))]) for _ in range(count)]


def broken_bans(book, guard):
    """The list of the bans of a guard that a book breaks, found without frames."""
    return [at for at, (p, q) in enumerate(guard.bans()) if table_tells(book, p, q)]


class GuardTest(RefusingTest):
    def test_attributes(self):
        book = book_of("a > b, c > d")
        guard = Guard(book, (eye("a"), eye("c")))
        self.assertEqual([guard.book, guard.bans(), len(guard), repr(guard), bool(guard)],
                         [book, [(eye("a"), eye("c"))], 1, "Guard(2 grants, 1 bans)", True])
        empty = Guard(Book())
        self.assertEqual([empty.book, empty.bans(), len(empty), repr(empty), bool(empty)],
                         [Book(), [], 0, "Guard(0 grants, 0 bans)", True])
        self.assertEqual(repr(guard_of("a > b", "a ! b, b ! c, c ! d, a ! a, a ! b, a ! b, a ! b, a ! b")),
                         "Guard(1 grants, 8 bans)")

    def test_the_list_of_bans_is_new(self):
        guard = guard_of("a > b", "a ! c")
        guard.bans().append("x")
        guard.bans().clear()
        self.assertEqual(guard.bans(), bans_of("a ! c"))

    def test_equal_guards(self):
        guard = guard_of("a > b, c > d", "a ! c, b ! d")
        self.assertEqual(guard, guard_of("a > b, c > d", "a ! c, b ! d"))
        for other in [guard_of("c > d, a > b", "a ! c, b ! d"), guard_of("a > b", "a ! c, b ! d"),
                      guard_of("a > b, c > d", "b ! d, a ! c"), guard_of("a > b, c > d", "a ! c"),
                      guard_of("a > b, c > d", "a ! c, b ! d, b ! d"), guard_of("a > b, c > d", ""),
                      guard_of("a > b, c > d", "c ! a, b ! d"), guard.book, guard.bans(), None, "a", 2]:
            self.assertNotEqual(guard, other)
        self.assertNotEqual(Guard(Book()), Book())

    def test_changed_guards(self):
        guard = guard_of("a > b", "a ! c, b ! d, c ! e")
        self.assertEqual(guard.with_book(book_of("c > d")), guard_of("c > d", "a ! c, b ! d, c ! e"))
        self.assertEqual(guard.with_ban(eye("x"), read_circle("y | z")),
                         guard_of("a > b", "a ! c, b ! d, c ! e, x ! y | z"))
        self.assertEqual(guard.with_ban(other=eye("y"), one=eye("x")).bans()[3], (eye("x"), eye("y")))
        self.assertEqual(guard.with_ban(eye("a"), eye("c")), guard_of("a > b", "a ! c, b ! d, c ! e, a ! c"))
        self.assertEqual(guard.without_ban(0), guard_of("a > b", "b ! d, c ! e"))
        self.assertEqual(guard.without_ban(1), guard_of("a > b", "a ! c, c ! e"))
        self.assertEqual(guard.without_ban(at=2), guard_of("a > b", "a ! c, b ! d"))
        self.assertEqual(guard, guard_of("a > b", "a ! c, b ! d, c ! e"))
        self.assertEqual(Guard(Book()).with_ban(eye("a"), eye("b")), guard_of("", "a ! b"))
        self.assertEqual(guard_of("", "a ! b").without_ban(0), Guard(Book()))


class BrokenTest(RefusingTest):
    def broken(self, book, bans, wanted):
        guard = guard_of(book, bans)
        self.assertEqual(guard.first_broken(), wanted, (book, bans))
        self.assertIs(guard.is_safe(), wanted is None)

    def test_chosen_guards(self):
        self.broken("", "", None)
        self.broken("a > b", "", None)
        self.broken("", "a ! b", None)
        self.broken("", "a ! a", 0)
        self.broken("", "a & b ! a", 0)
        self.broken("", "a ! b, b ! b | c", 1)
        self.broken("a > b", "a ! b", 0)
        self.broken("a > b", "b ! a", None)
        self.broken("a > b, b > c", "b ! a, a ! d, a ! c, a ! b", 2)
        self.broken("a | b > c, c & d > a", "b & d ! a", 0)
        self.broken("c & d > a", "b & d ! a", None)
        self.broken("a & b > c", "(a | c) & (b | c) ! c, (a & b) | c ! c", 1)

    def test_against_tables(self):
        seen = set()
        for guard in random_guards(54, 120):
            broken = broken_bans(guard.book, guard)
            self.assertEqual(guard.first_broken(), broken[0] if broken else None)
            self.assertIs(guard.is_safe(), broken == [])
            seen.add(guard.first_broken())
        self.assertEqual(seen, {None, 0, 1, 2})

    def test_frames_with_256_ties(self):
        great = with_ties(256)
        guard = Guard(book_of("a > zz"), (great, eye("zz")), (great, great))
        self.assertEqual(guard.first_broken(), 1)
        self.assertTrue(guard.without_ban(1).is_safe())
        self.assertEqual(len(guard.without_ban(1).with_ban(great, eye("yy")).one_world()),
                         2 * len(closed_frame(Book(), great)))


class OneWorldTest(RefusingTest):
    def test_without_bans(self):
        for text in ["", "a > b", "a | b > c"]:
            self.assertEqual(guard_of(text, "").one_world(), World(1))

    def test_chosen_guards(self):
        self.assertEqual(guard_of("", "a ! b").one_world().text(), "cases 2\na 1 1\n")
        self.assertEqual(guard_of("a > b", "a ! c").one_world().text(), "cases 2\na 1 1\nb 1 1\n")
        self.assertEqual(guard_of("a > b", "a ! c, b ! a").one_world().text(), "cases 4\na 1 1 3 4\nb 1 1 3 3\n")
        self.assertEqual(guard_of("a > b", "b ! a, a ! c").one_world().text(), "cases 4\na 1 2 3 3\nb 1 1 3 3\n")
        self.assertEqual(guard_of("b > c", "a ! b, a | b ! a, a & b ! d").one_world().text(),
                         "cases 9\na 1 1 3 4 3 6 6 8 8\nb 1 2 3 4 5 5 4 8 8\nc 1 2 3 4 5 5 4 8 8\n")

    def test_case_by_case(self):
        safe = 0
        for guard in random_guards(55, 150):
            broken = broken_bans(guard.book, guard)
            if broken:
                continue
            world = guard.one_world()
            begin = 0
            self.assertTrue(guard.book.kept_by(world))
            for p, q in guard.bans():
                frame = closed_frame(guard.book, p)
                self.assertEqual(world.kept_to(range(begin + 1, begin + 1 + len(frame))), frame)
                self.assertTrue(world.alike(p, begin + 1, begin + 2))
                self.assertFalse(world.alike(q, begin + 1, begin + 2))
                self.assertFalse(world.tells(p, q))
                begin += len(frame)
            self.assertEqual(len(world), max(begin, 1))
            if begin:
                for name in world.eyes():
                    self.assertTrue(all(u <= begin for u in world.parting(eye(name))))
            safe += len(guard.bans()) > 1
        self.assertGreater(safe, 10)

    def test_8_bans(self):
        guard = Guard(book_of("a > b"), *bans_of("b ! a, a ! c, a & b ! c, b ! a, b ! c, c ! b, c ! a, d ! a"))
        self.assertEqual(guard.one_world().text(),
                         "cases 16\na 1 2 3 3 5 5 7 8 9 10 11 12 13 14 15 16\n"
                         "b 1 1 3 3 5 5 7 7 9 9 11 12 13 14 15 16\n"
                         "c 1 2 3 4 5 6 7 8 9 10 11 11 13 13 15 16\n"
                         "d 1 2 3 4 5 6 7 8 9 10 11 12 13 14 15 15\n")


class LotsTest(RefusingTest):
    def lots(self, book, bans, unsafe, safe):
        guard = guard_of(book, bans)
        self.assertEqual(guard.unsafe_lots(), unsafe, (book, bans))
        self.assertEqual(guard.safe_lots(), safe, (book, bans))

    def test_chosen_guards(self):
        self.lots("", "", [], [()])
        self.lots("", "a ! b", [], [()])
        self.lots("", "a ! a", [()], [])
        self.lots("a > b", "a & b ! a", [()], [])
        self.lots("a > b", "", [], [(0,)])
        self.lots("a > b", "a ! b", [(0,)], [()])
        self.lots("a > b, b > c", "a ! c", [(0, 1)], [(0,), (1,)])
        self.lots("a > b, b > c", "a ! c, b ! c", [(1,)], [(0,)])
        self.lots("a > b, b > c, a > c", "a ! c", [(2,), (0, 1)], [(0,), (1,)])
        self.lots("a > b, a > b, b > c", "a ! c", [(0, 2), (1, 2)], [(2,), (0, 1)])
        self.lots("a > b, b > c, d > b", "a ! c, d ! c", [(0, 1), (1, 2)], [(1,), (0, 2)])

    def test_8_grants(self):
        self.lots(WAYS, "a ! z", [(0, 1), (2, 3), (4, 5)],
                  [(0, 2, 4, 6, 7), (0, 2, 5, 6, 7), (0, 3, 4, 6, 7), (0, 3, 5, 6, 7), (1, 2, 4, 6, 7),
                   (1, 2, 5, 6, 7), (1, 3, 4, 6, 7), (1, 3, 5, 6, 7)])
        self.lots(WAYS, "b ! z, a ! f", [], [tuple(range(8))])
        self.lots(WAYS, "a ! a | z, b ! z", [()], [])

    def test_by_definition(self):
        seen = set()
        for guard in random_guards(56, 80, grants=5):
            many = len(guard.book)
            safe = [lot for lot in all_lots(many) if not broken_bans(guard.book.only(lot), guard)]
            unsafe = plain_least(many, lambda lot: lot not in safe)
            greatest = [lot for lot in safe if not any(set(lot) < set(other) for other in safe)]
            self.assertEqual(guard.unsafe_lots(), unsafe)
            self.assertEqual(guard.safe_lots(), greatest)
            seen.add((min(len(unsafe), 2), min(len(greatest), 2)))
        self.assertLessEqual({(0, 1), (1, 0), (1, 1)}, seen)

    def test_several_bans_and_lots(self):
        source = random.Random(57)
        seen = set()
        for _ in range(40):
            book = Book(*[(random_circle(source, 2), source.choice("abcd")) for _ in range(6)])
            bans = [(random_circle(source, 2), eye(source.choice("abcd"))) for _ in range(2)]
            guard = Guard(book, *bans)
            safe = [lot for lot in all_lots(6) if not broken_bans(book.only(lot), guard)]
            self.assertEqual(guard.unsafe_lots(), plain_least(6, lambda lot: lot not in safe))
            greatest = [lot for lot in safe if not any(set(lot) < set(other) for other in safe)]
            self.assertEqual(guard.safe_lots(), greatest)
            seen.add(min(len(greatest), 2))
        self.assertEqual(seen, {0, 1, 2})

    def test_new_lists(self):
        guard = guard_of("a > b, b > c", "a ! c")
        guard.unsafe_lots().clear()
        guard.safe_lots().append("x")
        self.assertEqual([guard.unsafe_lots(), guard.safe_lots()], [[(0, 1)], [(0,), (1,)]])


class MoreTest(RefusingTest):
    def test_may_add(self):
        guard = guard_of("a > b", "a ! c")
        for circle, name, wanted in [("b", "c", False), ("a", "c", False), ("c", "a", True), ("d", "c", True),
                                     ("a & d", "c", True), ("a | d", "c", False), ("a & b", "c", False)]:
            self.assertIs(guard.may_add(read_circle(circle), name), wanted, (circle, name))
        self.assertIs(guard.may_add(name="c", circle=eye("b")), False)
        self.assertIs(guard_of("a > b", "").may_add(eye("b"), "c"), True)
        self.assertIs(guard_of("a > b", "a ! b").may_add(eye("x"), "y"), False)
        self.assertEqual(guard, guard_of("a > b", "a ! c"))

    def test_may_add_against_books(self):
        source = random.Random(58)
        seen = set()
        for guard in random_guards(59, 80):
            circle, name = random_circle(source, 3), source.choice("abcd")
            wanted = guard.with_book(guard.book.with_grant(circle, name)).is_safe()
            self.assertIs(guard.may_add(circle, name), wanted)
            seen.add((guard.is_safe(), wanted))
        self.assertEqual(seen, {(True, True), (True, False), (False, False)})

    def test_a_13th_grant(self):
        path = ", ".join(f"{one} > {other}" for one, other in zip("abcdefghijkl", "bcdefghijklm"))
        guard = guard_of(path, "a ! n, b ! a")
        self.assertEqual(len(guard.book), 12)
        self.assertIs(guard.may_add(eye("m"), "n"), False)
        self.assertIs(guard.may_add(eye("n"), "m"), True)
        self.assertIs(guard.may_add(eye("m"), "a"), False)
        self.assertIs(guard.may_add(read_circle("m & n"), "a"), True)
        pairs = [(eye("a"), eye("n")), (eye("n"), eye("a")), (eye("a"), eye("m")), (eye("g"), read_circle("b & n"))]
        self.assertEqual(guard.gains(eye("m"), "n", pairs), [0])
        self.assertEqual(guard.gains(eye("m"), "a", pairs), [])
        self.assertEqual(guard.gains(eye("n"), "a", pairs), [1])
        self.assertEqual(len(guard.book), 12)

    def test_gains(self):
        guard = guard_of("a > b", "a ! c")
        questions = [(read_circle(t), read_circle(s)) for t, s in
                     [("a", "c"), ("a", "b"), ("b", "c"), ("c", "a"), ("a & d", "b & c"), ("d", "b | c"), ("a", "c")]]
        kept = list(questions)
        self.assertEqual(guard.gains(eye("b"), "c", questions), [0, 2, 4, 6])
        self.assertEqual(guard.gains(eye("d"), "c", questions), [4, 5])
        self.assertEqual(guard.gains(eye("a"), "b", questions), [])
        self.assertEqual(guard.gains(questions=tuple(questions), name="a", circle=eye("c")), [3])
        self.assertEqual(guard.gains(eye("c"), "a", []), [])
        self.assertEqual(questions, kept)
        guard.gains(eye("b"), "c", questions).append(7)
        self.assertEqual(guard.gains(eye("b"), "c", questions), [0, 2, 4, 6])

    def test_gains_against_books(self):
        source = random.Random(60)
        seen = set()
        for guard in random_guards(61, 60, grants=3, bans=1):
            circle, name = random_circle(source, 3), source.choice("abcd")
            questions = [(random_circle(source, 3), random_circle(source, 3)) for _ in range(6)]
            more = guard.book.with_grant(circle, name)
            wanted = [at for at, (t, s) in enumerate(questions)
                      if must_tell(more, t, s) and not must_tell(guard.book, t, s)]
            self.assertEqual(guard.gains(circle, name, questions), wanted)
            seen.add(min(len(wanted), 2))
        self.assertEqual(seen, {0, 1, 2})
