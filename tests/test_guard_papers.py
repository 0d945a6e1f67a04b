"""Guard papers: what is safe or broken, and what judges them."""

import random

from pooledeyes.books import Book
from pooledeyes.circles import eye
from pooledeyes.closings import closed_world, closing_log
from pooledeyes.frames import Frame, count_ties
from pooledeyes.guards import Guard
from pooledeyes.papers import guard_paper, is_guard_paper
from pooledeyes.worlds import World
from tests.anyvalues import any_values, but_numbers
from tests.making import with_ties
from tests.plainframes import plain_frame
from tests.plainlogs import is_number, log_changes, paper_changes, plain_keeps, plain_log_shows, ties_of
from tests.plainworlds import plain_relation
from tests.reading import book_of, guard_of
from tests.refusing import RefusingTest
from tests.test_guards import random_guards


def plain_is_guard_paper(guard, value):
    """Whether any value is a guard paper, by the words of the document and over pairs of cases."""
    if not isinstance(value, tuple) or not value or not isinstance(value[0], str):
        return False
    bans = guard.bans()
    if value[0] == "safe" and len(value) == 2 and isinstance(value[1], World):
        world, ties = value[1], ties_of(value[1])
        told = [plain_relation(world.many, ties, p) <= plain_relation(world.many, ties, q) for p, q in bans]
        return plain_keeps(world, guard.book.grants()) and not any(told)
    if value[0] != "broken" or len(value) != 3 or not is_number(value[1], 0, len(bans) - 1):
        return False
    p, q = bans[value[1]]
    ties = plain_frame(p)
    many = max(2, *[v for tie in ties for v in tie[1:]])
    return plain_log_shows(many, ties, guard.book.grants(), value[2], q, 1, 2)


class GuardPaperTest(RefusingTest):
    def test_chosen_papers(self):
        self.assertEqual(guard_paper(Guard(Book()))[0], "safe")
        self.assertEqual(guard_paper(guard_of("a > b", "a ! c"))[0], "safe")
        paper = guard_paper(guard_of("a > b", "a ! c, a ! b, b ! b"))
        self.assertEqual(paper[0], "broken")
        self.assertIn(paper[1], [1, 2])

    def test_right_papers(self):
        words = []
        for guard in random_guards(66, 120):
            paper = guard_paper(guard)
            self.assertEqual(paper[0], "safe" if guard.is_safe() else "broken")
            self.assertIs(is_guard_paper(guard, paper), True)
            self.assertEqual(guard_paper(guard=guard), paper)
            words.append(paper[0])
            if all(count_ties(p) < 6 for p, _ in guard.bans()):
                self.assertTrue(plain_is_guard_paper(guard, paper))
        self.assertGreater(min(words.count("safe"), words.count("broken")), 10)

    def test_great_guards(self):
        great = with_ties(256)
        safe = Guard(Book((eye("a"), "b")), *[(great, eye("zz"))] * 8)
        self.assertEqual(guard_paper(safe)[0], "safe")
        self.assertTrue(is_guard_paper(safe, guard_paper(safe)))
        broken = Guard(Book(), (eye("a"), eye("b")), (great, great))
        self.assertEqual(guard_paper(broken), ("broken", 1, []))
        self.assertTrue(is_guard_paper(broken, ("broken", 1, ())))


class IsGuardPaperTest(RefusingTest):
    def judged(self, guard, value):
        """is_guard_paper says what the plain judge says."""
        wanted = plain_is_guard_paper(guard, value)
        self.assertIs(is_guard_paper(guard, value), wanted, (guard.book.text(), guard.bans(), value))
        return wanted

    def test_any_values(self):
        for guard in [Guard(Book()), guard_of("a > b", "a ! b, a ! c"), guard_of("b > c", "a ! b"),
                      guard_of("", "a ! a")]:
            for value in any_values():
                self.assertIs(is_guard_paper(guard, value), False)
                self.judged(guard, ("safe", value))
                self.judged(guard, ("broken", 0, value))
                self.judged(guard, ("broken", value, []))
                self.judged(guard, (value, 0, []))
        broken = guard_of("", "a ! a")
        for value in but_numbers(0, 0):
            self.assertIs(is_guard_paper(broken, ("broken", value, [])), False)
        self.assertIs(is_guard_paper(broken, ("broken", 0, [])), True)

    def test_changed_papers(self):
        source = random.Random(67)
        safe = broken = wrong = 0
        for guard in random_guards(68, 100, bans=2):
            if not all(count_ties(p) < 5 for p, _ in guard.bans()):
                continue
            paper = guard_paper(guard)
            values = [paper] + paper_changes(paper)
            for at, (p, _) in enumerate(guard.bans()):
                log = closing_log(Frame(p).world(), guard.book)
                values += [("broken", index, log) for index in range(-3, 4)]
                values += [("broken", at, log) for log in log_changes(source, log)[:20]]
                closed = closed_world(Frame(p).world(), guard.book)
                values += [("safe", world) for world in [closed, closed + closed, Frame(p).world(), World(1),
                                                         closed.tied("a", 1, 2), World(2, [("a", 1, 2)])]]
            for value in values:
                right = self.judged(guard, value)
                safe += right and value[0] == "safe"
                broken += right and value[0] == "broken"
                wrong += not right
        self.assertGreater(min(safe, broken, wrong), 40)

    def test_other_worlds_and_books(self):
        guard = guard_of("a > b", "a ! c, b ! a")
        for text, wanted in [("cases 4\na 1 1 3 4\nb 1 1 3 3\n", True), ("cases 3\na 1 1 3\nb 1 1 1\n", True),
                             ("cases 2\na 1 1\nb 1 1\n", False), ("cases 2\nb 1 1\n", False),
                             ("cases 4\na 1 1 3 4\nb 1 2 3 3\n", False), ("cases 1\n", False),
                             ("cases 3\na 1 1 3\nb 1 1 1\nc 1 1 3\n", False),
                             ("cases 3\na 1 1 3\nb 1 1 1\nc 1 2 2\n", True)]:
            self.assertIs(is_guard_paper(guard, ("safe", World.read(text))), wanted, text)
        world = World.read("cases 3\na 1 1 3\nb 1 1 1\n")
        self.assertIs(is_guard_paper(guard.with_book(book_of("a > b, b > a")), ("safe", world)), False)
        self.assertIs(is_guard_paper(guard.with_book(Book()), ("safe", world)), True)
        self.assertIs(is_guard_paper(value=("safe", world), guard=guard.without_ban(0)), True)
        self.assertIs(is_guard_paper(guard.with_ban(eye("a"), eye("b")), ("safe", world)), False)
        self.assertIs(is_guard_paper(Guard(Book()), ("safe", world)), True)
