"""Offices: deeds that are done."""

import random

from pooledeyes.books import Book
from pooledeyes.circles import eye
from pooledeyes.circletexts import read_circle
from pooledeyes.errors import PooledError, UnknownName
from pooledeyes.guards import Guard
from pooledeyes.office import Office
from pooledeyes.plans import Plan
from pooledeyes.sketches import Sketch
from pooledeyes.worlds import World
from tests.anyvalues import any_values
from tests.plainoffice import PlainOffice, random_deed
from tests.reading import guard_of, plan_of, sketch_of
from tests.refusing import RefusingTest

TEXT = "cases 3\na 1 1 3\nb 1 2 2\n"
BEGUN = [("world", "w", TEXT), ("guard", "g"), ("plan", "p"), ("sketch", "s", "g", 3)]


def begun(*deeds):
    """An office with the world w, the guard g, the plan p and the sketch s, in which some deeds are done."""
    office = Office()
    office.do(*BEGUN)
    office.do(*deeds)
    return office


class DeedsTest(RefusingTest):
    def test_new_offices(self):
        office = Office()
        self.assertEqual([len(office), repr(office), bool(office), office.busy, office.history(), office.journal(),
                          office.ask("names")], [0, "Office(0 things)", True, False, (0, 0), [], []])
        self.assertEqual(office, Office())

    def test_new_things(self):
        office = begun()
        self.assertEqual([office.world_of("w"), office.guard_of("g"), office.plan_of("p"), office.sketch_of("s")],
                         [World.read(TEXT), Guard(Book()), Plan(), Sketch(3)])
        self.assertEqual([len(office), repr(office), bool(office), office.busy, office.ask("names")],
                         [4, "Office(4 things)", True, False, ["g", "p", "s", "w"]])
        self.assertEqual([office.ask("kind", name) for name in "wgps"], ["world", "guard", "plan", "sketch"])
        self.assertIsNone(office.do(("guard", "abcdef")))
        self.assertEqual(repr(office), "Office(5 things)")

    def test_grants(self):
        office = begun(("grant", "g", "a & b", "c"), ("grant", "g", "(d) | (d | e)", "abcdef"))
        self.assertEqual(office.guard_of("g"), guard_of("a & b > c, d | e > abcdef", ""))
        office.do(("grant", "g", "a", "c"), ("take", "g", 0))
        self.assertEqual(office.guard_of("g"), guard_of("d | e > abcdef, a > c", ""))
        office.do(("take", "g", 1), ("take", "g", 0))
        self.assertEqual(office.guard_of("g"), Guard(Book()))

    def test_bans(self):
        office = begun(("grant", "g", "a", "b"), ("ban", "g", "a & b", "c | d"), ("ban", "g", "a", "a"))
        self.assertEqual(office.guard_of("g"), guard_of("a > b", "a & b ! c | d, a ! a"))
        office.do(("unban", "g", 0), ("ban", "g", "(b)", "b & c"))
        self.assertEqual(office.guard_of("g"), guard_of("a > b", "a ! a, b ! b & c"))
        office.do(("unban", "g", 1), ("take", "g", 0), ("unban", "g", 0))
        self.assertEqual(office.guard_of("g"), Guard(Book()))

    def test_sayings(self):
        office = begun(("say", "s", "alike", "a | b", 1, 2), ("say", "s", "unlike", "c", 3, 3))
        self.assertEqual(office.sketch_of("s"), sketch_of(3, "1 2 alike a | b, 3 3 unlike c"))
        office.do(("unsay", "s", 0), ("say", "s", "alike", "(b) & a", 2, 1))
        self.assertEqual(office.sketch_of("s"), sketch_of(3, "3 3 unlike c, 2 1 alike b & a"))
        office.do(("sketch", "t", "g", 8), ("say", "t", "alike", "a", 8, 1))
        self.assertEqual(office.sketch_of("t"), sketch_of(8, "8 1 alike a"))

    def test_shares(self):
        office = begun(("share", "p", "learns", "a", "b | c"), ("share", "p", "swaps", "a", "d"),
                       ("share", "p", "blurs", "abcdef", "(a)"), ("share", "p", "becomes", "c", "c & a"))
        self.assertEqual(office.plan_of("p"), plan_of("a learns b | c, a swaps d, abcdef blurs a, c becomes c & a"))

    def test_runs_and_ties(self):
        office = begun(("share", "p", "blurs", "a", "b"), ("share", "p", "swaps", "b", "c"), ("run", "p", "w"))
        self.assertEqual(office.world_of("w"), World.read("cases 3\na 1 1 1\nc 1 2 2\n"))
        office.do(("tie", "w", "b", 1, 3), ("tie", "w", "z", 2, 2), ("tie", "w", "abcdef", 3, 2))
        self.assertEqual(office.world_of("w").text(), "cases 3\na 1 1 1\nabcdef 1 2 2\nb 1 2 1\nc 1 2 2\n")
        office.do(("run", "p", "w"), ("run", "p", "w"), ("plan", "q"), ("run", "q", "w"))
        self.assertEqual(office.world_of("w").text(), "cases 3\na 1 1 1\nabcdef 1 2 2\nb 1 2 1\nc 1 2 2\n")
        office.do(("run", "p", "w"))
        self.assertEqual(office.world_of("w").text(), "cases 3\na 1 1 1\nabcdef 1 2 2\nb 1 2 2\nc 1 2 1\n")
        self.assertEqual(office.plan_of("p"), plan_of("a blurs b, b swaps c"))

    def test_drops(self):
        office = begun(("drop", "w"), ("drop", "p"), ("drop", "s"), ("drop", "g"))
        self.assertEqual([len(office), office.ask("names")], [0, []])
        office.do(("plan", "w"), ("guard", "p"))
        self.assertEqual([office.plan_of("w"), office.guard_of("p")], [Plan(), Guard(Book())])

    def test_deeds_of_one_call_build_on_one_another(self):
        office = Office()
        office.do(("guard", "g"), ("grant", "g", "a", "b"), ("sketch", "s", "g", 2), ("say", "s", "alike", "a", 1, 2),
                  ("drop", "s"), ("drop", "g"), ("world", "g", "cases 2\n"), ("tie", "g", "a", 1, 2))
        self.assertEqual(office.ask("names"), ["g"])
        self.assertEqual(office.world_of("g"), World(2, [("a", 1, 2)]))

    def test_12_names(self):
        office = begun(*[("plan", "p" + letter) for letter in "abcdefgh"])
        self.assertEqual(len(office), 12)
        office.do(("drop", "pa"), ("world", "w" * 6, "cases 1\n"))
        self.assertEqual(repr(office), "Office(12 things)")


class HangingTest(RefusingTest):
    def test_the_book_is_that_of_the_guard(self):
        office = begun(("sketch", "t", "g", 2), ("say", "s", "alike", "a", 1, 2), ("say", "s", "unlike", "b", 1, 2))
        ahead = office.sketch_of("s")
        self.assertEqual([ahead.book, office.ask("stands", "s")], [Book(), True])
        office.do(("grant", "g", "a", "b"), ("ban", "g", "a", "c"))
        self.assertEqual([office.sketch_of("s"), office.sketch_of("t")],
                         [sketch_of(3, "1 2 alike a, 1 2 unlike b", "a > b"), sketch_of(2, "", "a > b")])
        self.assertIs(office.ask("stands", "s"), False)
        # A sketch that was told ahead of a deed keeps its book.
        self.assertEqual(ahead, sketch_of(3, "1 2 alike a, 1 2 unlike b"))
        self.assertTrue(ahead.stands())
        office.do(("grant", "g", "c", "d"), ("take", "g", 0))
        self.assertEqual([office.sketch_of("s").book, office.ask("stands", "s")], [guard_of("c > d", "").book, True])

    def test_several_guards(self):
        office = begun(("guard", "h"), ("grant", "h", "a", "z"), ("sketch", "t", "h", 2), ("grant", "g", "b", "y"))
        self.assertEqual([str(office.sketch_of("s").book), str(office.sketch_of("t").book)], ["b > y\n", "a > z\n"])
        office.do(("drop", "s"), ("drop", "g"), ("guard", "g"), ("sketch", "s", "h", 1))
        self.assertEqual(str(office.sketch_of("s").book), "a > z\n")

    def test_things_that_were_told_stay(self):
        office = begun(("grant", "g", "a", "b"), ("share", "p", "learns", "a", "b"))
        things = [office.world_of("w"), office.guard_of("g"), office.plan_of("p"), office.sketch_of("s")]
        texts = [things[0].text(), things[1].book.text(), things[2].shares(), things[3].sayings()]
        office.do(("tie", "w", "a", 2, 3), ("take", "g", 0), ("share", "p", "swaps", "a", "b"), ("run", "p", "w"),
                  ("say", "s", "alike", "a", 1, 2))
        self.assertEqual([things[0].text(), things[1].book.text(), things[2].shares(), things[3].sayings()], texts)


class LookingTest(RefusingTest):
    def test_names_in_offices(self):
        office = begun()
        for name in "wgps":
            self.assertIn(name, office)
        for value in any_values() + ["x", "ww", "G", ["w"], ("w",)]:
            if not (isinstance(value, str) and value in ["w", "g", "p", "s"]):
                self.assertNotIn(value, office)
                self.assertNotIn(value, Office())

    def test_things_of_another_kind(self):
        office = begun()
        askers = {"w": office.world_of, "g": office.guard_of, "p": office.plan_of, "s": office.sketch_of}
        for right, asker in askers.items():
            for value in any_values() + list("wgpsx"):
                if not (isinstance(value, str) and value == right):
                    self.refused(UnknownName, {"name": value}, asker, value)
        self.assertEqual(office.world_of(name="w"), World.read(TEXT))
        self.assertEqual([office.guard_of(name="g"), office.plan_of(name="p"), office.sketch_of(name="s")],
                         [Guard(Book()), Plan(), Sketch(3)])

    def test_equal_offices(self):
        deeds = [("grant", "g", "a", "b"), ("ban", "g", "a", "c"), ("share", "p", "learns", "a", "b"),
                 ("say", "s", "alike", "a", 1, 2)]
        office, other = begun(*deeds), Office()
        for deed in [BEGUN[1], BEGUN[2], BEGUN[3], BEGUN[0]] + deeds[::-1]:
            other.do(deed)
        self.assertEqual(office, other)
        self.assertNotEqual(office.history(), other.history())
        for deed in [("tie", "w", "a", 2, 3), ("grant", "g", "a", "b"), ("take", "g", 0), ("unban", "g", 0),
                     ("share", "p", "swaps", "a", "b"), ("unsay", "s", 0), ("say", "s", "alike", "a", 1, 2),
                     ("drop", "w"), ("plan", "q"), ("ban", "g", "a", "c")]:
            other.do(deed)
            self.assertNotEqual(office, other, deed)
            other.undo()
            self.assertEqual(office, other)
        for value in [None, 4, "office", [], {}, office.journal(), Guard(Book())]:
            self.assertNotEqual(office, value)

    def test_sketches_hang_on_guards_of_the_same_names(self):
        one, other = Office(), Office()
        for office, hook in [(one, "g"), (other, "h")]:
            office.do(("guard", "g"), ("guard", "h"), ("sketch", "s", hook, 2))
        self.assertEqual(one.sketch_of("s"), other.sketch_of("s"))
        self.assertNotEqual(one, other)
        other.do(("drop", "s"), ("sketch", "s", "g", 2))
        self.assertEqual(one, other)
        other.do(("drop", "s"), ("sketch", "s", "g", 3))
        self.assertNotEqual(one, other)

    def test_names_count(self):
        one, other = Office(), Office()
        one.do(("plan", "p"))
        other.do(("plan", "q"))
        self.assertNotEqual(one, other)
        other.do(("drop", "q"), ("guard", "p"))
        self.assertNotEqual(one, other)


class RandomOfficeTest(RefusingTest):
    def same(self, office, plain):
        """An office has the things of a plain one."""
        self.assertEqual(office.ask("names"), plain.names())
        self.assertEqual(len(office), len(plain.names()))
        for name in plain.worlds:
            self.assertEqual(office.world_of(name), plain.worlds[name]["world"])
        for names, asked, wanted in [(plain.guards, office.guard_of, plain.guard),
                                     (plain.plans, office.plan_of, plain.plan),
                                     (plain.sketches, office.sketch_of, plain.sketch)]:
            for name in names:
                self.assertEqual(asked(name), wanted(name))

    def test_random_deeds(self):
        source = random.Random(161)
        done = refused = 0
        errors = set()
        for _ in range(12):
            office, plain = Office(), PlainOffice()
            for _ in range(150):
                deeds = [random_deed(source) for _ in range(source.choice([1, 1, 1, 2, 3]))]
                behind = plain.copy()
                try:
                    for deed in deeds:
                        behind.done(deed)
                except (PooledError, LookupError) as error:
                    history = office.history()
                    self.refused(error.__class__, vars(error), office.do, *deeds)
                    self.assertEqual(office.history(), history)
                    errors.add(error.__class__.__name__)
                    refused += 1
                else:
                    self.assertIsNone(office.do(*deeds))
                    plain = behind
                    done += 1
                self.same(office, plain)
                self.assertIs(office.busy, False)
        self.assertGreater(min(done, refused), 200)
        self.assertLessEqual({"InvalidName", "NameTaken", "InvalidText", "UnknownName", "InvalidNumber", "UnknownGrant",
                              "UnknownBan", "InvalidSaying", "UnknownSaying", "InvalidShare", "InvalidCase", "InUse"},
                             errors)

    def test_circles_are_read_from_texts(self):
        office = begun(("grant", "g", "((a)) & (a & b)", "c"))
        self.assertEqual(office.guard_of("g").book.grants(), [(read_circle("a & b"), "c")])
        office.do(("share", "p", "becomes", "a", "((b))"))
        self.assertEqual(office.plan_of("p").shares(), [("becomes", "a", eye("b"))])
