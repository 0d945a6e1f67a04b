"""Promises 4 to 6: reading circle texts, judging them, and refusing wrong ones."""

import itertools
import random
import unittest

from pooledeyes.circles import common, eye, pool
from pooledeyes.circletexts import is_circle_text, read_circle
from pooledeyes.errors import InvalidText, TooMany
from tests.anyvalues import any_values, without_strings
from tests.making import deep_text, deepened, eyes_to, names_to
from tests.plain import plain_of, plain_text, random_plain
from tests.plaintexts import all_texts, right_to


class ReadingTestCase(unittest.TestCase):
    def wrong_at(self, text, at):
        """Whether a value is refused as no circle text, with this place."""
        with self.assertRaises(InvalidText) as caught:
            read_circle(text)
        self.assertEqual(caught.exception.at, at, text)
        self.assertIs(is_circle_text(text), False)

    def refused(self, what, most, text):
        """Whether a text is refused with this TooMany."""
        with self.assertRaises(TooMany) as caught:
            read_circle(text)
        self.assertEqual((caught.exception.what, caught.exception.most), (what, most))
        self.assertIs(is_circle_text(text), False)


class ReadTest(ReadingTestCase):
    def test_examples(self):
        one = read_circle('(a) & (b & a)')
        two = read_circle('a | (b & (c | d))')
        self.assertEqual(
            [str(one), one.kind, one.size, one.depth, str(two), two.size, two.depth,
             [str(part) for part in two.parts()], two.eyes()],
            ['a & b', 'pool', 2, 1, 'a | (b & (c | d))', 4, 3, ['a', 'b & (c | d)'], ['a', 'b', 'c', 'd']])
        self.wrong_at('a & b | c', 6)

    def test_texts(self):
        for text, wanted in [
            ("a", "a"), ("abcdef", "abcdef"), ("(a)", "a"), ("((((a))))", "a"), ("(" * 20 + "a" + ")" * 20, "a"),
            ("a & b", "a & b"), ("a | b | c", "a | b | c"), ("(a & b)", "a & b"), ("(a) | (b)", "a | b"),
            ("a & (b | c)", "a & (b | c)"), ("((a & ((b) | c)))", "a & (b | c)"), ("(b) & a & b", "b & a"),
            ("a & a", "a"), ("(a | b) & (a | b)", "a | b"), ("(a | b) & (b | a)", "(a | b) & (b | a)"),
            ("a | (b | (c | a))", "a | b | c"), ("(a | (b & b)) & (a | b)", "a | b"),
            ("((a & b) | (a & b)) & c", "a & b & c"),
        ]:
            circle = read_circle(text)
            self.assertEqual(str(circle), wanted)
            self.assertEqual(read_circle(wanted), circle)
            self.assertIs(is_circle_text(text), text == wanted)
            self.assertIs(is_circle_text(wanted), True)

    def test_text_by_name(self):
        self.assertEqual(read_circle(text="a & b"), pool(eye("a"), eye("b")))
        self.assertIs(is_circle_text(value="a & b"), True)
        self.assertIs(is_circle_text(value="b & b"), False)

    def test_all_short_texts(self):
        texts = all_texts(13, ["a", "b"])
        self.assertGreater(len(texts), 500)
        for text, plain in texts.items():
            self.assertEqual(plain_of(read_circle(text)), plain, text)
            self.assertIs(is_circle_text(text), plain_text(plain) == text, text)

    def test_a_text_is_read_back(self):
        source = random.Random(4)
        for _ in range(400):
            plain = random_plain(source, source.randint(1, 40))
            circle = read_circle(plain_text(plain))
            self.assertEqual(plain_of(circle), plain)
            self.assertEqual(str(circle), plain_text(plain))
            self.assertEqual(read_circle(str(circle)), circle)
            self.assertIs(is_circle_text(str(circle)), True)

    def test_three_thousand_equal_items(self):
        self.assertEqual(str(read_circle(" & ".join(["a"] * 3000))), "a")
        self.assertEqual(str(read_circle(" | ".join(["(a & b)"] * 1200))), "a & b")
        self.assertEqual(str(read_circle(" | ".join(["b", "a"] * 1500))), "b | a")
        self.assertIs(is_circle_text(" & ".join(["a"] * 3000)), False)


class WrongTextTest(ReadingTestCase):
    def test_the_named_places(self):
        for text, at in [
            ("", 0), (" a", 0), ("a b", 2), ("a &", 3), ("a &b", 3), ("a & b | c", 6), ("abcdefg", 6),
            ("a ", 2), ("a  & b", 2), ("a & ", 4), ("a &  b", 4), ("a&b", 1), ("a & b ", 6), ("a & b &", 7),
            ("A", 0), ("aB", 1), ("a1", 1), ("a\n", 1), ("\n", 0), ("&", 0), ("a & & b", 4), ("a & abcdefg", 10),
            ("(", 1), ("()", 1), (")", 0), ("(a", 2), ("(a))", 3), ("a)", 1), ("(a)b", 3), ("(a)(b)", 3),
            ("a(b)", 1), ("( a)", 1), ("(a )", 3), ("(a & b | c)", 7), ("(a & b) | c & d", 12),
            ("(a | b & c)", 7), ("a | (b & c) & d", 12), ("a & (b | c | d & e)", 15), ("a &| b", 3),
        ]:
            self.assertEqual(right_to(text), at)
            self.wrong_at(text, at)

    def test_values_that_are_no_strings(self):
        for value in without_strings():
            self.wrong_at(value, -1)

    def test_all_short_strings(self):
        texts = all_texts(13, ["a", "aa", "aaa", "aaaa", "aaaaa", "aaaaaa"])
        begun = {text[:length] for text in texts for length in range(len(text) + 1)}
        for length in range(6):
            for characters in itertools.product("a &|()", repeat=length):
                text = "".join(characters)
                if text not in texts:
                    at = max(most for most in range(length + 1) if text[:most] in begun)
                    self.assertEqual(right_to(text), at)
                    self.wrong_at(text, at)

    def test_every_other_character(self):
        for code in [9, 10, 13] + list(range(32, 127)) + [0xe9, 0x430]:
            if chr(code) not in "abcdefghijklmnopqrstuvwxyz(":
                for ahead in ["", "a & ", "(b | ", "(", "a &"]:
                    text = ahead + chr(code) + "a)"
                    self.wrong_at(text, right_to(text))

    def test_spoiled_texts(self):
        source = random.Random(5)
        for _ in range(3000):
            text = plain_text(random_plain(source, source.randint(1, 30)))
            at = source.randrange(len(text) + 1)
            text = text[:at] + source.choice("a &|()\nA.") + text[at + source.randint(0, 1):]
            self.judge(text)
            self.judge(text[:source.randrange(len(text) + 1)])

    def judge(self, text):
        """Whether a text is read if right_to goes to its end and more of it is not wanted."""
        at = right_to(text)
        complete = right_to(text + " ") == len(text) + 1 and text[-1:] not in ("&", "|")
        if at == len(text) and complete and text.count("(") == text.count(")"):
            self.assertIsInstance(str(read_circle(text)), str)
        else:
            self.wrong_at(text, at)

    def test_open_parentheses(self):
        for many in [1, 2, 19, 20]:
            text = "(" * many + "a" + ")" * many
            self.assertEqual(str(read_circle(text)), "a")
            self.wrong_at(text[:-1], 2 * many)
            self.wrong_at(text + ")", 2 * many + 1)
        for many in [21, 22, 30, 6000]:
            self.wrong_at("(" * many + "a" + ")" * many, 20)
            self.wrong_at("(" * many, 20)

    def test_open_parentheses_further_on(self):
        right = "(" * 20 + "a" + ")" * 20
        self.assertEqual(str(read_circle(right + " & " + right.replace("a", "b"))), "a & b")
        self.wrong_at(right + " & (" + right + ")", 41 + 3 + 20)
        self.wrong_at("(a & " + right + ")", 5 + 19)
        inner = "(" * 19 + "a" + ")" * 19
        self.assertEqual(str(read_circle("(b & " + inner + " & (c | d))")), "b & a & (c | d)")

    def test_long_wrong_texts(self):
        right = " & ".join(["a"] * 2999)
        self.wrong_at(right + " ", len(right) + 1)
        self.wrong_at(right + " &", len(right) + 2)
        self.wrong_at(right + " & ", len(right) + 3)
        self.wrong_at(right + " | a", len(right) + 1)
        self.wrong_at(right + ")", len(right))
        self.wrong_at("(" + right, len(right) + 1)
        self.wrong_at("a" * 12000, 6)
        self.wrong_at(" " * 12000, 0)
        self.wrong_at("a" + " " * 11999, 2)

    def test_a_wrong_text_is_refused_ahead_of_too_many(self):
        great = " & ".join(names_to(61))
        self.wrong_at(great + " & ", len(great) + 3)
        self.wrong_at("(" + great + ") | ", len(great) + 5)
        self.wrong_at(deep_text(21) + ")", len(deep_text(21)))


class GreatTextTest(ReadingTestCase):
    def test_sixty_and_sixty_one_eyes(self):
        for sign, maker in [(" & ", pool), (" | ", common)]:
            text = sign.join(names_to(60))
            self.assertEqual(read_circle(text), maker(*eyes_to(60)))
            self.assertIs(is_circle_text(text), True)
            self.refused("eyes", 60, sign.join(names_to(61)))

    def test_what_is_left_out_does_not_count(self):
        text = " & ".join(names_to(60))
        self.assertEqual(str(read_circle(text + " & (" + text + ")")), text)
        self.assertEqual(str(read_circle(" | ".join(["(" + text + ")"] * 3))), text)

    def test_inner_circles_are_checked_ahead_of_being_flattened(self):
        great = " & ".join(names_to(61))
        for text in ["(" + great + ")", "a & (" + great + ")", "(" + great + ") | a"]:
            self.refused("eyes", 60, text)

    def test_depth_twenty_and_twenty_one(self):
        text = deep_text(20)
        self.assertEqual([read_circle(text).depth, str(read_circle(text))], [20, text])
        self.assertIs(is_circle_text(text), True)
        self.assertEqual(read_circle("(" + text + ")"), read_circle(text))
        self.refused("depth", 20, deep_text(21))
        self.wrong_at(deep_text(22), 20)

    def test_a_deep_circle_is_read_back(self):
        circle = deepened(pool(*eyes_to(41)), 19)
        self.assertEqual([circle.size, circle.depth], [60, 20])
        self.assertEqual(read_circle(str(circle)), circle)
        self.assertIs(is_circle_text(str(circle)), True)

    def test_eyes_ahead_of_depth(self):
        self.refused("eyes", 60, deep_text(21) + " & " + " & ".join(names_to(40)))
        self.refused("depth", 20, deep_text(21) + " & " + " & ".join(names_to(38)))

    def test_the_inner_circle_is_refused_first(self):
        self.refused("eyes", 60, deep_text(21).replace("a", " & ".join(names_to(61))))


class JudgeTest(unittest.TestCase):
    def test_any_values(self):
        for value in any_values():
            right = isinstance(value, str) and value in ["a", "abcdef", "a & b"]
            for said in [is_circle_text(value), is_circle_text(value)]:
                self.assertIs(said, right)

    def test_circles_are_no_texts(self):
        circle = read_circle("a & b")
        self.assertIs(is_circle_text(circle), False)
        self.assertIs(is_circle_text(str(circle)), True)


if __name__ == "__main__":
    unittest.main()
