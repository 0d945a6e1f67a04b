"""Judging derivations: right ones, and values of all kinds."""

import random

from pooledeyes.books import Book
from pooledeyes.circles import eye, pool
from pooledeyes.circletexts import read_circle
from pooledeyes.tables import derivation_of, is_derivation
from tests.anyvalues import any_values
from tests.making import deep_text, eyes_to, names_to
from tests.refusing import RefusingTest
from tests.test_musts import random_questions, read

BOOK = read("a | b > c, c & d > a")
# b & d must tell a: b tells a | b, so c; with d it tells c & d, so a.
RIGHT = [
    ("b & d", "b", "part", ()),
    ("b", "a | b", "whole", ()),
    ("b & d", "a | b", "through", (0, 1)),
    ("a | b", "c", "grant", ()),
    ("b & d", "c", "through", (2, 3)),
    ("b & d", "d", "part", ()),
    ("b & d", "c & d", "all", (4, 5)),
    ("c & d", "a", "grant", ()),
    ("b & d", "a", "through", (6, 7)),
]


def said(t, s, value, book=BOOK):
    """What is_derivation says of a value; it is passed texts of circles."""
    return is_derivation(book, read_circle(t), read_circle(s), value)


class IsDerivationTest(RefusingTest):
    def right(self, t, s, value, book=BOOK):
        self.assertIs(said(t, s, value, book), True, value)
        self.assertIs(said(t, s, tuple(value), book), True, value)
        self.assertIs(is_derivation(value=value, s=read_circle(s), t=read_circle(t), book=book), True)

    def wrong(self, t, s, value, book=BOOK):
        self.assertIs(said(t, s, value, book), False, value)

    def test_each_rule(self):
        self.right("b & d", "a", RIGHT)
        self.right("a", "a", [("a", "a", "same", ())])
        self.right("a | (b & c)", "a | (b & c)", [("a | (b & c)", "a | (b & c)", "same", ())])
        self.right("a & b", "a", [("a & b", "a", "part", ())])
        self.right("c & (a | b)", "a | b", [("c & (a | b)", "a | b", "part", ())])
        self.right("a & c", "b | (a & c)", [("a & c", "b | (a & c)", "whole", ())])
        self.right("a | b", "c", [("a | b", "c", "grant", ())])
        self.right("a | c", "c", [("a", "a | b", "whole", ()), ("a | b", "c", "grant", ()),
                                  ("a", "c", "through", (0, 1)),
                                  ("c", "c", "same", ()), ("a | c", "c", "each", (2, 3))])
        self.right("a", "a", [("a", "a", "same", ()), ("a", "a", "through", (0, 0))])
        self.right("c | (c & d)", "c", [("c", "c", "same", ()), ("c & d", "c", "part", ()),
                                        ("c | (c & d)", "c", "each", (0, 1))])

    def test_rules_of_descents_are_none(self):
        self.wrong("a", "a", [("a", "a", "eye", ())])
        self.wrong("a & b", "a", [("a", "a", "same", ()), ("a & b", "a", "left", (0,))])
        self.wrong("a", "a | b", [("a", "a", "same", ()), ("a", "a | b", "right", (0,))])

    def test_ends(self):
        for at in range(len(RIGHT)):
            self.wrong("b & d", "a", RIGHT[:at])
            p, q = RIGHT[at][:2]
            self.right(p, q, RIGHT[:at + 1])
        self.wrong("d & b", "a", RIGHT)
        self.wrong("b & d", "a", [])
        self.wrong("b & d", "a", ())
        self.wrong("b & d", "c", RIGHT)
        self.right("b & d", "a", RIGHT + RIGHT)

    def test_other_books(self):
        for book in [Book(), BOOK.without(0), BOOK.without(1), read("b | a > c, c & d > a"),
                     read("a | b > c, d & c > a"),
                     BOOK.exchanged("a", "b"), BOOK.exchanged("d", "x")]:
            self.wrong("b & d", "a", RIGHT, book)
        for book in [BOOK + read("x > y"), read("c & d > a, a | b > c"),
                     read("a | b > c, a | b > c, c & d > a, b > a")]:
            self.right("b & d", "a", RIGHT, book)

    def test_rows_left_out_doubled_and_moved(self):
        for at in range(len(RIGHT)):
            self.wrong("b & d", "a", RIGHT[:at] + RIGHT[at + 1:])
            if at < len(RIGHT) - 2:
                self.wrong("b & d", "a", RIGHT[:at] + [RIGHT[at]] + RIGHT[at:])
        self.wrong("b & d", "a", RIGHT[::-1])
        for at in [1, 2, 3, 4, 5, 6, 7]:
            self.wrong("b & d", "a", RIGHT[:at] + [RIGHT[at + 1], RIGHT[at]] + RIGHT[at + 2:])

    def test_other_rules(self):
        for at, row in enumerate(RIGHT):
            for rule in ["each", "all", "same", "part", "whole", "grant", "through", "eye", "left", "right", "",
                         "Part", None, 0,
                         True, ("part",), ["part"], eye("a")]:
                rows = RIGHT[:at] + [(row[0], row[1], rule, row[3])] + RIGHT[at + 1:]
                self.assertIs(said("b & d", "a", rows), rule == row[2], (at, rule))

    def test_other_texts(self):
        for at, row in enumerate(RIGHT):
            for place in (0, 1):
                for text in ["", "b ", "(b)", "d & b", "b & b", "b&d", "e", "b | d", "B", "a & b | c", "(b & d)",
                             "b | a", "d & c",
                             None, 1, ("b",), ["b"], eye("b"), b"b", True]:
                    changed = list(row)
                    changed[place] = text
                    rows = RIGHT[:at] + [tuple(changed)] + RIGHT[at + 1:]
                    self.wrong("b & d", "a", rows)

    def test_own_and_later_indexes(self):
        for at, row in enumerate(RIGHT):
            for because in [(), (0,), (1,), (at,), (at, at), (at + 1,), (at - 1, at), (at, at - 1), (at + 1, at + 2),
                            (0, 1), (1, 0),
                            (2, 3), (3, 2), (4, 5), (5, 4), (6, 7), (7, 6), (0, 1, 1), (6, 7, 8), (-9, -8), (-1,),
                            (-9,), (-7, -6),
                            (False, True), (False, 1), (0, True), (6.0, 7), ("6", "7"), (None,), (6, None), ((6, 7),),
                            [], [0, 1],
                            [2, 3], [4, 5], [6, 7], None, 0, "", (10 ** 8, 1)]:
                rows = RIGHT[:at] + [row[:3] + (because,)] + RIGHT[at + 1:]
                self.assertIs(said("b & d", "a", rows), repr(because) == repr(row[3]), (at, because))
        # Rows that lean on one another, or on themselves.
        self.wrong("a", "b", [("a", "b", "through", (0, 0))])
        self.wrong("a", "b", [("a", "a", "same", ()), ("a", "b", "through", (0, 1))])
        self.wrong("a", "b", [("a", "c", "through", (1, 2)), ("c", "b", "through", (0, 2)),
                              ("a", "b", "through", (0, 1))])

    def test_indexes_below_zero(self):
        self.wrong("a", "a", [("a", "a", "same", ()), ("a", "a", "through", (-1, -1))])
        self.wrong("a", "a", [("a", "a", "same", ()), ("a", "a", "through", (0, -1))])
        self.wrong("a", "a", [("a", "a", "same", ()), ("a", "a", "through", (-2, 0))])
        self.wrong("c | d", "c | d", [("c", "c | d", "whole", ()), ("d", "c | d", "whole", ()),
                                      ("c | d", "c | d", "each", (-3, 1))])
        self.right("c | d", "c | d", [("c", "c | d", "whole", ()), ("d", "c | d", "whole", ()),
                                      ("c | d", "c | d", "each", (0, 1))])
        self.wrong("c | d", "c | d", [("c", "c | d", "whole", ()), ("d", "c | d", "whole", ()),
                                      ("c | d", "c | d", "each", (1, 0))])

    def test_through_needs_one_circle_between(self):
        first = [("a & b", "a", "part", ()), ("a & b", "b", "part", ()), ("a", "a | d", "whole", ()),
                 ("b", "a | b", "whole", ())]
        self.right("a & b", "a | d", first + [("a & b", "a | d", "through", (0, 2))])
        for because in [(0, 3), (1, 2), (2, 0), (0,), (2,), (0, 2, 2), (), (0, 0), (2, 2), (3, 2)]:
            self.wrong("a & b", "a | d", first + [("a & b", "a | d", "through", because)])

    def test_same_part_and_whole_need_what_they_say(self):
        for t, s, rule in [("a", "b", "same"), ("a & b", "b & a", "same"), ("a & b", "c", "part"),
                           ("a & b", "a & b", "part"),
                           ("a | b", "a", "part"), ("a & (b | c)", "b", "part"), ("a & b & c", "a & b", "part"),
                           ("a", "a", "part"),
                           ("c", "a | b", "whole"), ("a | b", "a | b", "whole"), ("a", "a & b", "whole"),
                           ("a", "b | (a & c)", "whole"),
                           ("a | b", "a | b | c", "whole"), ("a", "a", "whole"), ("a", "c", "grant"),
                           ("c", "a | b", "grant"),
                           ("a | b", "a", "grant"), ("c & d", "c", "grant"), ("a", "a", "grant"),
                           ("a | b", "c & d", "grant")]:
            self.wrong(t, s, [(t, s, rule, ())])

    def test_each_and_all_need_their_kind(self):
        rows = [("a", "a", "same", ()), ("b", "b", "same", ())]
        for t, s, rule, because in [("a", "a", "each", (0,)), ("a", "a", "all", (0,)), ("a", "a", "each", ()),
                                    ("a", "a", "all", ()),
                                    ("a & b", "a", "each", (0, 1)), ("a", "a | b", "all", (0, 1)),
                                    ("a | b", "a", "each", (0,))]:
            self.wrong(t, s, rows + [(t, s, rule, because)])

    def test_values_of_all_kinds(self):
        for value in any_values():
            self.wrong("a", "a", value)
            self.wrong("a", "a", [value])
            self.wrong("a", "a", [value, ("a", "a", "same", ())])
            self.wrong("a", "a", [("a", "a", "same", ()), value])
            self.wrong("b & d", "a", RIGHT[:8] + [("b & d", "a", "through", (value, 7))])
            self.wrong("b & d", "a", RIGHT[:8] + [("b & d", "a", "through", value)])
            for at in range(4):
                row = ["a", "a", "same", ()]
                right = row[at] == value and type(row[at]) is type(value)
                row[at] = value
                self.assertIs(said("a", "a", [tuple(row)]), right, value)

    def test_rows_of_another_form(self):
        row = ("a", "a", "same", ())
        for wrong in [list(row), row[:3], row + ((),), row[:3] + ([],), (row,), "same", ("a", "a", (), "same"),
                      row + (0,)]:
            self.wrong("a", "a", [wrong])
            self.wrong("a", "a", [row, wrong])
            self.wrong("a", "a", [wrong, row])

    def test_texts_of_60_and_61_eyes(self):
        for many, right in [(60, True), (61, False)]:
            for sign, row in [(" & ", "part"), (" | ", "whole")]:
                text = sign.join(names_to(61)[:many])
                pair = (text, "a") if row == "part" else ("a", text)
                rows = [pair + (row, ()), ("a", "a", "same", ())]
                self.assertIs(said("a", "a", rows), right)
                self.assertIs(said("a", "a", [(text, text, "same", ()), ("a", "a", "same", ())]), right)
        t = pool(*eyes_to(60))
        self.assertIs(is_derivation(Book(), t, eye("bh"), [(str(t), "bh", "part", ())]), True)

    def test_texts_of_the_depth_20_and_21(self):
        for many, right in [(19, True), (20, True), (21, False)]:
            text = deep_text(many)
            self.assertIs(said("a", "a", [(text, text, "same", ()), ("a", "a", "same", ())]), right)
            pair = (text, "z", "part", ()) if many % 2 else ("z", text, "whole", ())
            self.assertIs(said("a", "a", [pair, ("a", "a", "same", ())]), right)

    def test_changed_derivations(self):
        source = random.Random(491)
        judged = 0
        for book, t, s in random_questions(492, 250, 5, 5):
            derivation = derivation_of(book, t, s)
            if derivation is None:
                continue
            self.assertIs(is_derivation(book, t, s, derivation), True)
            self.assertIs(is_derivation(book, t, s, derivation[:-1] + [list(derivation[-1])]), False)
            for _ in range(4):
                at = source.randrange(len(derivation))
                p, q, rule, because = derivation[at]
                for row in [(p, q, rule, because + (0,)), (p, q, rule, list(because)), (p, q + " ", rule, because),
                            (p, q, "eye", because), (p, q, rule,
                                                     tuple(index - len(derivation) for index in because) or (0,))]:
                    judged += 1
                    self.assertIs(is_derivation(book, t, s, derivation[:at] + [row] + derivation[at + 1:]), False)
        self.assertGreater(judged, 500)
