"""Keys and essential eyes."""

import random

from pooledeyes.circles import common, eye, pool
from pooledeyes.circletexts import read_circle
from pooledeyes.descents import always_alike
from pooledeyes.keys import essential_eyes, is_key, key_of
from pooledeyes.puts import mirrored
from tests.making import all_circles, eyes_to, to_depth
from tests.plainworlds import random_circle
from tests.refusing import RefusingTest

KEYS = [
    # A circle and its key.
    ("a", "a"), ("b & a", "a & b"), ("c | a | b", "a | b | c"), ("(a & c) | b", "(a & c) | b"),
    ("b | (a & c)", "(a & c) | b"), ("a & (b | a)", "a"), ("a | (b & a)", "a"), ("(c & a) | b", "(a & c) | b"),
    ("(a & b) | (a & (b | (a & c)))", "((a & c) | b) & a"), ("a | (b & (a | (b & c)))", "a | (b & c)"),
    ("(b | c) & (a | d)", "(a | d) & (b | c)"), ("(a | b) & (a | b | c)", "a | b"), ("(a & b) | (c & a & b)", "a & b"),
    ("z & (a | ab)", "(a | ab) & z"), ("b & (a | b | c)", "b"), ("ab & a & b", "a & ab & b"),
    ("(c & d) | b | (a & d)", "(a & d) | b | (c & d)"), ("(x | (a & b)) & a & b", "a & b"),
]


def is_ordered(circle):
    """Whether the parts of a circle, and of all circles in it, stand in ascending order of their texts."""
    texts = [str(part) for part in circle.parts()]
    return texts == sorted(texts) and all(is_ordered(part) for part in circle.parts())


def shuffled(source, circle):
    """A circle with the parts of all circles in it in another order."""
    if circle.kind == "eye":
        return circle
    parts = [shuffled(source, part) for part in circle.parts()]
    source.shuffle(parts)
    return {"pool": pool, "common": common}[circle.kind](*parts)


class KeyTest(RefusingTest):
    def test_chosen_circles(self):
        for text, key in KEYS:
            circle = read_circle(text)
            self.assertEqual(str(key_of(circle)), key)
            self.assertEqual(str(key_of(circle=circle)), key)
            self.assertEqual(str(key_of(key_of(circle))), key)
            self.assertIs(is_key(circle), text == key)
            self.assertIs(is_key(circle=read_circle(key)), True)

    def test_texts_are_ordered_without_parentheses(self):
        # The text a & c stands ahead of b, though ( does not come into it.
        for text, key in [("b | (a & c)", "(a & c) | b"), ("c & (d | e)", "c & (d | e)"),
                          ("z & (y | x)", "(x | y) & z"),
                          ("(b & c) | a", "a | (b & c)"), ("(a & c) | ab", "(a & c) | ab")]:
            self.assertEqual(str(key_of(read_circle(text))), key)

    def test_equal_exactly_if_always_alike(self):
        for names, most in [("ab", 5), ("abc", 4)]:
            circles = all_circles(names, most)
            keys = [str(key_of(circle)) for circle in circles]
            classes = {}
            for circle, key in zip(circles, keys):
                classes.setdefault(key, []).append(circle)
            self.assertGreater(len(circles), 3 * len(classes))
            for key, alike in classes.items():
                for circle in alike:
                    self.assertTrue(always_alike(circle, read_circle(key)), (str(circle), key))
            heads = [read_circle(key) for key in classes]
            for at, one in enumerate(heads):
                for other in heads[at + 1:]:
                    self.assertFalse(always_alike(one, other), (one, other))

    def test_the_fewest_written_eyes_and_just_one(self):
        for names, most in [("ab", 6), ("abc", 4)]:
            classes = {}
            for circle in all_circles(names, most):
                classes.setdefault(str(key_of(circle)), []).append(circle)
            for key, alike in classes.items():
                least = min(circle.size for circle in alike)
                self.assertEqual([str(circle) for circle in alike if circle.size == least], [key])
                for circle in alike:
                    self.assertIs(is_key(circle), str(circle) == key)
                    self.assertLessEqual(set(essential_eyes(circle)), set(circle.eyes()))
                    self.assertEqual(essential_eyes(circle), read_circle(key).eyes())

    def test_random_circles(self):
        source = random.Random(341)
        for _ in range(300):
            circle = random_circle(source, 14)
            key = key_of(circle)
            self.assertTrue(always_alike(circle, key))
            self.assertTrue(is_ordered(key))
            self.assertLessEqual(key.size, circle.size)
            self.assertLessEqual(key.depth, circle.depth)
            self.assertIs(is_key(key), True)
            self.assertEqual(key_of(shuffled(source, circle)), key)
            self.assertIs(is_key(circle), circle == key)
            for part in key.parts():
                self.assertIs(is_key(part), True)
                rest = [other for other in key.parts() if other != part]
                without = {"pool": pool, "common": common}[key.kind](*rest)
                self.assertFalse(always_alike(without, key))

    def test_keys_of_random_pairs(self):
        source = random.Random(342)
        for _ in range(400):
            t, s = random_circle(source, 6), random_circle(source, 6)
            self.assertIs(key_of(t) == key_of(s), always_alike(t, s))
            for one, other in [(t & s, s & t), (t | (t & s), t), (t & (t | s), t), (t | s | t, s | t)]:
                self.assertEqual(key_of(one), key_of(other))

    def test_mirrored_circles(self):
        source = random.Random(343)
        for _ in range(200):
            circle = random_circle(source, 10)
            key = key_of(mirrored(circle))
            self.assertEqual(key, key_of(mirrored(key_of(circle))))
            self.assertEqual(key.size, key_of(circle).size)
            self.assertEqual(essential_eyes(mirrored(circle)), essential_eyes(circle))

    def test_essential_eyes(self):
        for text, eyes in [("a", ["a"]), ("b & a", ["a", "b"]), ("a & (a | b)", ["a"]), ("a | (b & c & a)", ["a"]),
                           ("(c | b) & (a | c) & c", ["c"]), ("(a & b) | (a & (b | (a & c)))", ["a", "b", "c"]),
                           ("zz & (b | c | zz) & ab", ["ab", "zz"])]:
            circle = read_circle(text)
            self.assertEqual(essential_eyes(circle), eyes)
            essential_eyes(circle).clear()
            self.assertEqual(essential_eyes(circle=circle), eyes)

    def test_great_circles(self):
        for size in [21, 40, 60]:
            for depth in [19, 20]:
                for circle in [to_depth(depth, size), mirrored(to_depth(depth, size))]:
                    key = key_of(circle)
                    # Each eye stands there once, so nothing can be left out.
                    self.assertEqual([key.size, key.depth, key.eyes()], [size, depth, circle.eyes()])
                    self.assertTrue(always_alike(circle, key) and is_ordered(key) and is_key(key))
        for maker in [pool, common]:
            circle = maker(*eyes_to(60)[::-1])
            self.assertEqual(key_of(circle), maker(*sorted(eyes_to(60), key=str)))
        source = random.Random(344)
        for _ in range(25):
            circle = random_circle(source, 60)
            key = key_of(circle)
            self.assertTrue(always_alike(circle, key) and is_ordered(key) and is_key(key))

    def test_great_circles_with_short_keys(self):
        deep = read_circle("a & b")
        for at in range(2, 21):
            deep = pool(deep, eye("a")) if at % 2 else common(deep, eye("bc"[at % 4 == 0]))
        self.assertEqual([deep.depth, deep.size, is_key(deep)], [20, 21, False])
        self.assertTrue(always_alike(deep, key_of(deep)))
        self.assertLess(key_of(deep).size, deep.size)
        eyes = eyes_to(60)
        wide = common(eyes[0], *[pool(eyes[0], other) for other in eyes[1:30]])
        self.assertEqual([wide.size, str(key_of(wide)), essential_eyes(wide)], [59, "a", ["a"]])
        self.assertEqual([str(key_of(mirrored(wide))), is_key(wide)], ["a", False])
