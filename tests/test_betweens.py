"""Circles between two circles."""

import random

from pooledeyes.betweens import circle_between
from pooledeyes.circles import Circle, common, eye, pool
from pooledeyes.circletexts import read_circle
from pooledeyes.descents import tells
from tests.making import all_circles, eyes_to, to_depth
from tests.plainworlds import random_circle
from tests.refusing import RefusingTest


class BetweenTest(RefusingTest):
    def check(self, t, s):
        """What is between two circles is what the document asks; whether there is such a circle."""
        found = circle_between(t, s)
        self.assertEqual(found, circle_between(s=s, t=t))
        if not tells(t, s):
            self.assertIs(found, None)
            return False
        self.assertIsInstance(found, Circle)
        self.assertLessEqual(set(found.eyes()), set(t.eyes()) & set(s.eyes()))
        self.assertTrue(tells(t, found) and tells(found, s), (t, found, s))
        return True

    def test_small_circles(self):
        circles = all_circles("abc", 3)
        found = [self.check(t, s) for t in circles for s in circles]
        self.assertGreater(found.count(True), 200)
        self.assertGreater(found.count(False), 200)

    def test_chosen_circles(self):
        for first, second, wanted in [("a & b", "a | c", "a"), ("a & b & c", "a | b", None), ("a", "a", "a"),
                                      ("x & (a | b)", "a | b | y", "a | b"),
                                      ("(a & x) | (b & y)", "(a | z) | b", "a | b")]:
            t, s = read_circle(first), read_circle(second)
            self.assertTrue(self.check(t, s))
            if wanted is not None:
                self.assertTrue(tells(circle_between(t, s), read_circle(wanted)))
        for first, second in [("a", "b"), ("a | b", "a"), ("a & b", "c | d"), ("a & (b | c)", "(a & b) | (a & c)")]:
            self.assertFalse(self.check(read_circle(first), read_circle(second)))

    def test_random_circles(self):
        source = random.Random(361)
        found = []
        for _ in range(400):
            t, s, more = [random_circle(source, 7) for _ in range(3)]
            for one, other in [(t, s), (t & more, t | s), (t & s, s | more),
                               (t & (s | more), (t & eye("x")) | s | more)]:
                found.append(self.check(one, other))
        self.assertGreater(found.count(True), 800)

    def test_without_an_eye_in_common(self):
        source = random.Random(362)
        for _ in range(100):
            t = random_circle(source, 8)
            s = read_circle(str(random_circle(source, 8)).replace("a", "x").replace("b", "y").replace("c", "w")
                            .replace("d", "v").replace("long", "n").replace("sixsix", "m"))
            if not set(t.eyes()) & set(s.eyes()):
                self.assertFalse(tells(t, s) or tells(s, t))
                self.assertIs(circle_between(t, s), None)

    def test_great_circles(self):
        eyes = eyes_to(60)
        self.assertTrue(self.check(pool(*eyes), common(*eyes)))
        self.assertTrue(self.check(pool(*eyes[:40]), common(*eyes[39:])))
        self.assertEqual(circle_between(pool(*eyes[:40]), common(*eyes[39:])), eyes[39])
        self.assertFalse(self.check(pool(*eyes[:30]), common(*eyes[30:])))
        for depth in [19, 20]:
            for size in [21, 60]:
                circle = to_depth(depth, size)
                self.assertTrue(self.check(circle, circle))
                self.assertTrue(self.check(circle, circle.parts()[0]) is (circle.kind == "pool"))
                self.assertFalse(self.check(circle, eye("zzz")))
