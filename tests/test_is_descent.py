"""Judging descents: right ones, and values of all kinds."""

import random

from pooledeyes.circles import common, eye, pool
from pooledeyes.circletexts import read_circle
from pooledeyes.descents import descent_of, is_descent, tells
from tests.anyvalues import any_values
from tests.making import deep_text, eyes_to, names_to
from tests.plainworlds import random_circle
from tests.refusing import RefusingTest

POOL, AB = read_circle("a & b"), read_circle("a | b")
RIGHT = [
    ("a", "a", "eye", ()),
    ("b", "b", "eye", ()),
    ("a & b", "a", "left", (0,)),
    ("a & b", "b", "left", (1,)),
    ("a & b", "a & b", "all", (2, 3)),
]


def said(t, s, value):
    """What is_descent says of a value; it is passed texts of circles."""
    return is_descent(read_circle(t), read_circle(s), value)


class IsDescentTest(RefusingTest):
    def wrong(self, t, s, value):
        self.assertIs(said(t, s, value), False, value)

    def right(self, t, s, value):
        self.assertIs(said(t, s, value), True, value)
        self.assertIs(said(t, s, tuple(value)), True, value)
        self.assertIs(is_descent(value=value, s=read_circle(s), t=read_circle(t)), True)

    def test_each_rule(self):
        self.right("a", "a", RIGHT[:1])
        self.right("a & b", "a", RIGHT[:3])
        self.right("a & b", "a & b", RIGHT)
        self.right("a", "b | a", [("a", "a", "eye", ()), ("a", "b | a", "right", (0,))])
        self.right("b | a", "a | b", [
            ("a", "a", "eye", ()), ("b", "b", "eye", ()), ("a", "a | b", "right", (0,)), ("b", "a | b", "right", (1,)),
            ("b | a", "a | b", "each", (3, 2))])
        self.right("a & (b | c)", "c | b", [
            ("c", "c", "eye", ()), ("c", "c | b", "right", (0,)), ("b", "b", "eye", ()), ("b", "c | b", "right", (2,)),
            ("b | c", "c | b", "each", (3, 1)), ("a & (b | c)", "c | b", "left", (4,))])

    def test_left_and_right_where_an_earlier_rule_applies(self):
        # In the first one, each applies ahead of all and of right; in the second one, all ahead of left.
        both = [("a", "a", "eye", ()), ("b", "b", "eye", ()), ("a", "a | b", "right", (0,)),
                ("b", "a | b", "right", (1,)), ("a | b", "a | b", "each", (2, 3))]
        self.right("a | b", "((a | b) & (a | b | c)) | d", both + [
            ("a", "a | b | c", "right", (0,)), ("b", "a | b | c", "right", (1,)),
            ("a | b", "a | b | c", "each", (5, 6)),
            ("a | b", "(a | b) & (a | b | c)", "all", (4, 7)),
            ("a | b", "((a | b) & (a | b | c)) | d", "right", (8,))])
        self.right("((a & b) | (a & b & c)) & d", "a & b", RIGHT + [
            ("a & b & c", "a", "left", (0,)), ("a & b & c", "b", "left", (1,)), ("a & b & c", "a & b", "all", (5, 6)),
            ("(a & b) | (a & b & c)", "a & b", "each", (4, 7)),
            ("((a & b) | (a & b & c)) & d", "a & b", "left", (8,))])

    def test_the_rule_eye_is_for_eyes_alone(self):
        for text in ["a & b", "a | b", "a & (b | c)"]:
            self.wrong(text, text, [(text, text, "eye", ())])
            self.wrong(text, text, [("a", "a", "eye", ()), (text, text, "eye", ())])
        self.wrong("a", "b", [("a", "b", "eye", ())])
        self.wrong("a", "a", [("a", "a", "eye", ()), ("a", "a", "eye", (0,))])

    def test_rows_that_are_not_needed_may_stand(self):
        self.right("a", "a", [("b", "b", "eye", ()), ("a", "a", "eye", ()), ("b", "b", "eye", ()),
                              ("a", "a", "eye", ())])
        self.right("a & b", "a & b", RIGHT + RIGHT)
        self.right("a & b", "a", [RIGHT[0], RIGHT[0], ("a & b", "a", "left", (1,))])

    def test_ends(self):
        self.wrong("a & b", "a & b", RIGHT[:4])
        self.wrong("a & b", "b & a", RIGHT)
        self.wrong("a", "a", RIGHT)
        self.wrong("a & b", "a", [])
        self.wrong("a & b", "a", ())
        self.wrong("a", "b", [("a", "b", "eye", ())])
        self.assertIs(is_descent(read_circle("b & a"), POOL, RIGHT), False)

    def test_rows_left_out_doubled_and_moved(self):
        for at in range(5):
            self.wrong("a & b", "a & b", RIGHT[:at] + RIGHT[at + 1:])
        for at in range(3):
            # A doubled row moves those behind it away from their indexes.
            self.wrong("a & b", "a & b", RIGHT[:at] + [RIGHT[at]] + RIGHT[at:])
        self.wrong("a & b", "a & b", RIGHT[::-1])
        self.wrong("a & b", "a & b", RIGHT[1:] + RIGHT[:1])
        self.wrong("a & b", "a & b", [RIGHT[2]] + RIGHT)
        for at in range(4):
            moved = RIGHT[:at] + [RIGHT[at + 1], RIGHT[at]] + RIGHT[at + 2:]
            self.wrong("a & b", "a & b", moved)

    def test_other_rules(self):
        for at, row in enumerate(RIGHT):
            for rule in ["eye", "each", "all", "left", "right", "same", "part", "whole", "grant", "through", "", "Eye",
                         "left ", None, 0, True, ("left",), ["left"], eye("a")]:
                rows = RIGHT[:at] + [(row[0], row[1], rule, row[3])] + RIGHT[at + 1:]
                self.assertIs(said("a & b", "a & b", rows), rule == row[2], (at, rule))

    def test_other_texts(self):
        for at, row in enumerate(RIGHT):
            for place in (0, 1):
                for text in ["", "a ", "(a)", "b & a", "a & a", "a&b", "c", "a | b", "a & b & c", "A", "a & b | c",
                             "(a & b)", None, 1, ("a",), ["a"], eye("a"), POOL, b"a", True]:
                    changed = list(row)
                    changed[place] = text
                    rows = RIGHT[:at] + [tuple(changed)] + RIGHT[at + 1:]
                    self.assertIs(said("a & b", "a & b", rows), text == row[place], (at, text))

    def test_other_indexes(self):
        for at, row in enumerate(RIGHT):
            for because in [(), (0,), (1,), (2,), (3,), (4,), (5,), (0, 1), (2, 3), (3, 2), (2, 2), (2, 3, 3), (0, 0),
                            (-1,), (-5, -4), (-3, -2), (False,), (True,), (2, True), (0.0,), ("0",), (None,), ((0,),),
                            [], [0], [2, 3], None, 0, 2, "0", (10 ** 8,), (2, 3, None), {}]:
                rows = RIGHT[:at] + [row[:3] + (because,)] + RIGHT[at + 1:]
                self.assertIs(said("a & b", "a & b", rows), repr(because) == repr(row[3]), (at, because))

    def test_truths_and_floats_for_indexes(self):
        self.wrong("a & b", "a", [("a", "a", "eye", ()), ("a & b", "a", "left", (False,))])
        self.wrong("a & b", "a", [("b", "b", "eye", ()), ("a", "a", "eye", ()), ("a & b", "a", "left", (True,))])
        self.right("a & b", "a", [("b", "b", "eye", ()), ("a", "a", "eye", ()), ("a & b", "a", "left", (1,))])
        self.wrong("a & b", "a", [("b", "b", "eye", ()), ("a", "a", "eye", ()), ("a & b", "a", "left", (-1,))])
        self.wrong("a & b", "a", [("b", "b", "eye", ()), ("a", "a", "eye", ()), ("a & b", "a", "left", (2,))])

    def test_lists_for_tuples(self):
        for at, row in enumerate(RIGHT):
            for wrong in [list(row), row[:3] + (list(row[3]),), row + (), row[:3], row + (0,), row + ((),)]:
                rows = RIGHT[:at] + [wrong] + RIGHT[at + 1:]
                self.assertIs(said("a & b", "a & b", rows), wrong == row)

    def test_the_order_of_parts(self):
        rows = [("a", "a", "eye", ()), ("b", "b", "eye", ()), ("b & a", "a", "left", (0,)),
                ("b & a", "b", "left", (1,)), ("b & a", "b & a", "all", (3, 2))]
        self.right("b & a", "b & a", rows)
        self.wrong("b & a", "b & a", rows[:4] + [("b & a", "b & a", "all", (2, 3))])
        self.wrong("b & a", "b & a", rows[:4] + [("b & a", "b & a", "all", (3, 2, 2))])
        self.wrong("b & a", "b & a", rows[:4] + [("b & a", "b & a", "all", (3,))])

    def test_values_of_all_kinds(self):
        for value in any_values():
            self.wrong("a", "a", value)
            self.wrong("a", "a", [value])
            self.wrong("a", "a", [value, ("a", "a", "eye", ())])
            self.wrong("a", "a", [("a", "a", "eye", ()), value])
            self.wrong("a", "a", [("a", "a", "eye", ("a", value))])
            self.wrong("a & b", "a", [("a", "a", "eye", ()), ("a & b", "a", "left", (value, 0))])
            for at in range(4):
                row = ["a", "a", "eye", ()]
                right = row[at] == value and type(row[at]) is type(value)
                row[at] = value
                self.assertIs(said("a", "a", [tuple(row)]), right, value)

    def test_texts_of_60_and_61_eyes(self):
        names = names_to(61)
        for many, right in [(60, True), (61, False)]:
            text = " & ".join(names[:many])
            rows = [(name, name, "eye", ()) for name in names[:many]] + [(text, "a", "left", (0,))]
            self.assertIs(is_descent(eye("a"), eye("a"), rows + [("a", "a", "eye", ())]), right)
            text = " | ".join(names[:many])
            rows = [("a", "a", "eye", ()), ("a", text, "right", (0,)), ("a", "a", "eye", ())]
            self.assertIs(is_descent(eye("a"), eye("a"), rows), right)
        t = pool(*eyes_to(60))
        self.assertIs(is_descent(t, eye("bh"), [("bh", "bh", "eye", ()), (str(t), "bh", "left", (0,))]), True)

    def test_texts_of_the_depth_20_and_21(self):
        for many, right in [(19, True), (20, True), (21, False)]:
            text = deep_text(many)
            inner = deep_text(many - 1)
            rows = [("z", "z", "eye", ())]
            if many % 2:
                rows += [(text, "z", "left", (0,))]
            else:
                rows += [("z", text, "right", (0,))]
            self.assertIs(is_descent(eye("z"), eye("z"), rows + [("z", "z", "eye", ())]), right, many)
            self.assertNotEqual(inner, text)

    def test_changed_descents_of_random_circles(self):
        source = random.Random(331)
        for _ in range(150):
            t, s = random_circle(source, 7), random_circle(source, 7)
            t = t & s if source.random() < 0.7 else t
            descent = descent_of(t, s)
            if descent is None:
                continue
            self.assertIs(is_descent(t, s, descent), True)
            self.assertIs(is_descent(t, s, descent[:-1]), False)
            for at, (p, q, rule, because) in enumerate(descent):
                ahead, behind = descent[:at], descent[at + 1:]
                for row in [(q, p, rule, because), (p, q, rule, because + (0,)), (p, q, rule, because[1:] or (0,)),
                            (p, q, rule, list(because)), [p, q, rule, because], (p, q, "same", because)]:
                    changed = ahead + [row] + behind
                    self.assertIs(is_descent(t, s, changed), row == descent[at])

    def test_wrong_facts_have_no_descent(self):
        for t, s in [("a", "b"), ("a | b", "a"), ("a", "a & b"), ("a & (b | c)", "(a & b) | (a & c)")]:
            for rule, because in [("eye", ()), ("left", ()), ("each", ()), ("all", ()), ("right", ())]:
                self.wrong(t, s, [(t, s, rule, because)])
                self.wrong(t, s, [("a", "a", "eye", ()), (t, s, rule, (0,))])
                self.wrong(t, s, [("a", "a", "eye", ()), ("b", "b", "eye", ()), (t, s, rule, (0, 1))])
