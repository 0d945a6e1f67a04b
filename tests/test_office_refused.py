"""Offices: deeds that are refused, in which order, and what stays then."""

from pooledeyes.errors import (InUse, InvalidBan, InvalidCase, InvalidDeed, InvalidName, InvalidNumber, InvalidSaying,
                               InvalidShare, InvalidText, Missing, NameTaken, PooledError, TooMany, UnknownBan,
                               UnknownGrant, UnknownName, UnknownSaying)
from pooledeyes.office import Office
from tests.anyvalues import any_values, but_names, but_numbers
from tests.making import deep_text, names_to, with_ties
from tests.refusing import RefusingTest
from tests.test_office import BEGUN, TEXT, begun
from tests.test_plans_refused import deep_beside

NAMES = {"what": "names", "most": 12}
GRANTS = {"what": "grants", "most": 12}
BANS = {"what": "bans", "most": 8}
TIES = {"what": "ties", "most": 256}
SAYINGS = {"what": "sayings", "most": 12}
SHARES = {"what": "shares", "most": 12}
EYES = {"what": "eyes", "most": 60}
DEPTH = {"what": "depth", "most": 20}
LARGE = " & ".join(names_to(61))
DEEP = deep_text(21)
WRONG_TEXTS = [("", 0), ("a &", 3), (" a", 0), ("a b", 2), ("a & b | c", 6), ("abcdefg", 6), ("a&b", 1), ("(a", 2),
               ("A", 0)]
SIZES = {"world": 3, "guard": 2, "plan": 2, "sketch": 4, "grant": 4, "take": 3, "ban": 4, "unban": 3, "say": 6,
         "unsay": 3, "share": 5, "run": 3, "tie": 5, "drop": 2}


class DeedsRefusedTest(RefusingTest):
    def wrong(self, office, error, told, deed):
        """A deed is refused, alone and behind right deeds, and the office stays as it is."""
        twin, history, journal = office.twin(), office.history(), office.journal()
        right = ("drop", office.ask("names")[-1])
        for deeds in [(deed,), (deed, ("drop", "Z")), (deed, deed)]:
            self.refused(error, told, office.do, *deeds)
            self.assertEqual(office, twin)
            self.assertEqual([office.history(), office.journal(), office.busy], [history, journal, False])
        self.refused(InvalidDeed, {"at": 1}, office.do, deed, None)
        self.refused(InvalidDeed, {"at": 2}, office.do, right, deed, ("drop",))
        self.refused(InvalidDeed, {"at": 2}, office.tried, [right, deed, ("drop",)], ("names",))
        self.refused(error, told, office.tried, [deed], None)
        self.assertEqual([office, office.history(), office.journal(), office.busy], [twin, history, journal, False])

    def wrong_texts(self, office, deed_with):
        """A deed with a wrong text is refused; deed_with makes it of a text."""
        for text, at in WRONG_TEXTS:
            self.wrong(office, InvalidText, {"at": at}, deed_with(text))
        for value in any_values():
            if not isinstance(value, str):
                self.wrong(office, InvalidText, {"at": -1}, deed_with(value))
        self.wrong(office, TooMany, EYES, deed_with(LARGE))
        self.wrong(office, TooMany, DEPTH, deed_with(DEEP))
        self.wrong(office, InvalidText, {"at": len(LARGE) + 1}, deed_with(LARGE + " "))

    def unknown(self, office, name, deed_with):
        """A deed with any value that is no name of a thing of its kind is refused; deed_with makes it of a name."""
        for value in any_values() + list("wgpsx"):
            if not (isinstance(value, str) and value == name):
                self.wrong(office, UnknownName, {"name": value}, deed_with(value))

    def test_new_things(self):
        full = begun(*[("plan", "p" + letter) for letter in "abcdefgh"])
        for deed_with in [lambda name: ("world", name, TEXT), lambda name: ("guard", name), lambda name: ("plan", name),
                          lambda name: ("sketch", name, "g", 3), lambda name: ("world", name, None),
                          lambda name: ("sketch", name, "x", 9)]:
            for office in [begun(), full]:
                for value in but_names():
                    self.wrong(office, InvalidName, {"value": value}, deed_with(value))
                for name in "wgps":
                    self.wrong(office, NameTaken, {"name": name}, deed_with(name))
            self.wrong(full, TooMany, NAMES, deed_with("x"))

    def test_world_texts(self):
        for text, at in [("", 0), ("cases 0\n", 0), ("cases 2", 0), ("cases 2\na 1 2\n", 1),
                         ("cases 2\nb 1 1\na 1 1\n", 2)]:
            self.wrong(begun(), InvalidText, {"at": at}, ("world", "x", text))
        for value in any_values():
            if not isinstance(value, str):
                self.wrong(begun(), InvalidText, {"at": -1}, ("world", "x", value))

    def test_sketches(self):
        office = begun()
        self.unknown(office, "g", lambda guard: ("sketch", "x", guard, 3))
        self.unknown(office, "g", lambda guard: ("sketch", "x", guard, None))
        for value in but_numbers(1, 8):
            self.wrong(office, InvalidNumber, {"value": value}, ("sketch", "x", "g", value))
        self.wrong(office, UnknownName, {"name": "x"}, ("sketch", "x", "x", 3))

    def test_grants(self):
        office = begun(*[("grant", "g", "a", "b")] * 12)
        self.unknown(office, "g", lambda guard: ("grant", guard, "a &", 7))
        self.wrong_texts(office, lambda text: ("grant", "g", text, "A"))
        for value in but_names():
            self.wrong(office, InvalidName, {"value": value}, ("grant", "g", "a", value))
        self.wrong(office, TooMany, GRANTS, ("grant", "g", "a", "b"))
        self.unknown(office, "g", lambda guard: ("take", guard, 12))
        for value in but_numbers(0, 11):
            self.wrong(office, UnknownGrant, {"at": value}, ("take", "g", value))
        self.wrong(begun(), UnknownGrant, {"at": 0}, ("take", "g", 0))

    def test_bans(self):
        office = begun(*[("ban", "g", "a", "b")] * 8)
        great = str(with_ties(257))
        self.unknown(office, "g", lambda guard: ("ban", guard, "a &", LARGE))
        self.wrong_texts(office, lambda text: ("ban", "g", text, "a b"))
        self.wrong_texts(office, lambda text: ("ban", "g", great, text))
        self.wrong(office, TooMany, BANS, ("ban", "g", "a", "b"))
        self.wrong(office, TooMany, BANS, ("ban", "g", great, "b"))
        self.wrong(begun(), TooMany, TIES, ("ban", "g", great, "b"))
        self.assertIsNone(begun().do(("ban", "g", "a", great), ("ban", "g", str(with_ties(256)), "b")))
        self.unknown(office, "g", lambda guard: ("unban", guard, 8))
        for value in but_numbers(0, 7):
            self.wrong(office, UnknownBan, {"at": value}, ("unban", "g", value))
        self.wrong(begun(), UnknownBan, {"at": 0}, ("unban", "g", 0))

    def test_sayings(self):
        office = begun(*[("say", "s", "unlike", "a", 1, 2)] * 12)
        for some, many in [(begun(), 0), (begun(("say", "s", "alike", str(with_ties(256)), 1, 2)), 1), (office, 12)]:
            self.unknown(some, "s", lambda sketch: ("say", sketch, "like", "a &", 0, 0))
            self.wrong_texts(some, lambda text: ("say", "s", "like", text, 0, None))
            for value in any_values() + ["Alike", "like", "learns"]:
                self.wrong(some, InvalidSaying, {"at": many}, ("say", "s", value, "a", 1, 2))
            for value in but_numbers(1, 3):
                self.wrong(some, InvalidSaying, {"at": many}, ("say", "s", "alike", "a", value, 2))
                self.wrong(some, InvalidSaying, {"at": many}, ("say", "s", "unlike", "a", 3, value))
        self.wrong(office, TooMany, SAYINGS, ("say", "s", "alike", "a", 1, 2))
        self.wrong(office, TooMany, SAYINGS, ("say", "s", "alike", str(with_ties(257)), 1, 2))
        tied = begun(("say", "s", "alike", str(with_ties(256)), 1, 2))
        self.wrong(tied, TooMany, TIES, ("say", "s", "alike", "a", 1, 1))
        self.wrong(begun(), TooMany, TIES, ("say", "s", "alike", str(with_ties(257)), 1, 2))
        self.assertIsNone(begun().do(("say", "s", "unlike", str(with_ties(257)), 1, 2),
                                     ("say", "s", "alike", str(with_ties(255)), 1, 2),
                                     ("say", "s", "alike", "a", 1, 2)))
        self.unknown(office, "s", lambda sketch: ("unsay", sketch, 12))
        for value in but_numbers(0, 11):
            self.wrong(office, UnknownSaying, {"at": value}, ("unsay", "s", value))

    def test_shares(self):
        office = begun(*[("share", "p", "swaps", "a", "b")] * 12)
        for some, many in [(begun(), 0), (office, 12)]:
            self.unknown(some, "p", lambda plan: ("share", plan, "sees", "A", "a &"))
            for value in any_values() + ["sees", "Learns", "alike"]:
                self.wrong(some, InvalidShare, {"at": many}, ("share", "p", value, "A", "a &"))
            for word in ["learns", "blurs", "becomes"]:
                self.wrong_texts(some, lambda text, word=word: ("share", "p", word, "A", text))
            for value in but_names():
                self.wrong(some, InvalidShare, {"at": many}, ("share", "p", "learns", value, "b"))
                self.wrong(some, InvalidShare, {"at": many}, ("share", "p", "swaps", value, "b"))
                self.wrong(some, InvalidShare, {"at": many}, ("share", "p", "swaps", "abc", value))
            self.wrong(some, InvalidShare, {"at": many}, ("share", "p", "swaps", "a", "a"))
            self.wrong(some, InvalidShare, {"at": many}, ("share", "p", "swaps", "a", "a & b"))
        self.wrong(office, TooMany, SHARES, ("share", "p", "learns", "a", "b"))
        self.wrong(office, TooMany, SHARES, ("share", "p", "learns", "zz", " & ".join(names_to(60))))
        self.wrong(begun(), TooMany, EYES, ("share", "p", "learns", "zz", " & ".join(names_to(60))))
        deep = begun(("share", "p", "becomes", "zz", str(deep_beside(20, 30))))
        self.wrong(deep, TooMany, DEPTH, ("share", "p", "becomes", "yy", "zz & x"))

    def test_runs_and_ties(self):
        office = begun()
        self.unknown(office, "p", lambda plan: ("run", plan, "x"))
        self.unknown(office, "w", lambda world: ("run", "p", world))
        self.unknown(office, "w", lambda world: ("tie", world, "A", 0, 0))
        for value in but_names():
            self.wrong(office, InvalidName, {"value": value}, ("tie", "w", value, 0, 9))
        for value in but_numbers(1, 3):
            self.wrong(office, InvalidCase, {"value": value}, ("tie", "w", "a", value, 9))
            self.wrong(office, InvalidCase, {"value": value}, ("tie", "w", "a", 3, value))

    def test_drops(self):
        office = begun(("sketch", "t", "g", 1), ("guard", "h"))
        for value in any_values() + ["x", "W"]:
            if value not in ["w", "g", "p", "s", "t", "h"]:
                self.wrong(office, UnknownName, {"name": value}, ("drop", value))
        self.wrong(office, InUse, {"name": "g"}, ("drop", "g"))
        office.do(("drop", "s"))
        self.wrong(office, InUse, {"name": "g"}, ("drop", "g"))
        office.do(("drop", "h"), ("drop", "t"), ("drop", "g"))
        self.assertEqual(office.ask("names"), ["p", "w"])

    def test_kinds_of_errors(self):
        for error in [InUse, InvalidCase, InvalidDeed, InvalidName, InvalidNumber, InvalidSaying, InvalidShare,
                      InvalidText, NameTaken, TooMany, InvalidBan]:
            self.assertEqual(error.__bases__, (PooledError,))
        for error in [UnknownBan, UnknownGrant, UnknownName, UnknownSaying]:
            self.assertEqual(error.__bases__, (Missing,))
        with self.assertRaises(ValueError):
            begun().do(("guard", "g"))
        with self.assertRaises(LookupError):
            begun().do(("take", "g", 0))


class InvalidDeedTest(RefusingTest):
    def wrong(self, deed):
        """A value is no deed: this counts ahead of all else, wherever it stands."""
        office = begun()
        office.undo()
        twin, history = office.twin(), office.history()
        for deeds, at in [([deed], 0), ([("plan", "x"), deed], 1), ([("plan", "P"), deed, None], 1),
                          ([("drop", "y"), ("drop", "z"), deed, ()], 2), ([deed, ("plan", "P")], 0)]:
            self.refused(InvalidDeed, {"at": at}, office.do, *deeds)
            self.refused(InvalidDeed, {"at": at}, office.tried, deeds, ("names",))
            self.refused(InvalidDeed, {"at": at}, office.tried, tuple(deeds), None)
            self.assertEqual([office, office.history(), office.busy], [twin, history, False])

    def test_any_values(self):
        for value in any_values() + [(), ("names",), ["plan", "x"], ("Plan", "x"), (("plan", "x"),), "plan",
                                     (None, "x"), (["plan"], "x"), ({}, "x"), ("", "x"), ("tells", "g", "a", "b"),
                                     (0, 1), (True, "x")]:
            self.wrong(value)
        for value in any_values():
            self.wrong((value, "x"))
            self.wrong((value, "x", "y"))

    def test_other_numbers_of_items(self):
        for word, size in SIZES.items():
            for items in range(1, 8):
                deed = (word,) + ("g",) * (items - 1)
                if items != size:
                    self.wrong(deed)
                else:
                    with self.assertRaises((PooledError, Missing)) as caught:
                        office = begun()
                        office.do(deed, ("drop", "none"))
                    self.assertNotIsInstance(caught.exception, InvalidDeed)
        self.assertEqual(sorted(SIZES), sorted({deed[0] for deed in BEGUN} | {"grant", "take", "ban", "unban", "say",
                                                                             "unsay", "share", "run", "tie", "drop"}))

    def test_all_deeds_or_none(self):
        office = begun(("grant", "g", "a", "b"))
        twin = office.twin()
        deeds = [("grant", "g", "b", "c"), ("tie", "w", "z", 1, 2), ("say", "s", "alike", "a", 1, 2),
                 ("share", "p", "learns", "a", "b"), ("run", "p", "w"), ("drop", "s"), ("drop", "g"), ("plan", "q")]
        for many in range(len(deeds) + 1):
            self.refused(UnknownName, {"name": "none"}, office.do, *deeds[:many], ("drop", "none"), *deeds[many:])
            self.assertEqual([office, office.history(), office.journal()], [twin, twin.history(), twin.journal()])
        office.do(*deeds)
        self.assertEqual(office.ask("names"), ["p", "q", "w"])
        self.assertEqual(Office().twin(), Office())
