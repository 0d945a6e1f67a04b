"""Putting eyes out of circles."""

import itertools
import random

from pooledeyes.circles import common, eye, pool
from pooledeyes.circletexts import read_circle
from pooledeyes.descents import always_alike, tells
from pooledeyes.errors import InvalidName
from pooledeyes.keys import is_key, key_of
from pooledeyes.outs import out
from pooledeyes.puts import mirrored
from tests.anyvalues import but_names
from tests.making import all_circles, eyes_to, to_depth
from tests.plainworlds import random_circle
from tests.refusing import RefusingTest


def text_out(text, *eyes, **named):
    """The text of a circle with eyes put out, None if there is none."""
    found = out(read_circle(text), *eyes, **named)
    return None if found is None else str(found)


class OutTest(RefusingTest):
    def test_the_example(self):
        text = "a & (b | (c & d))"
        self.assertEqual([text_out(text, "b"), text_out(text, "b", above=False), text_out(text, "a"),
                          text_out(text, "a", above=False)], ["a", "a & c & d", "b | (c & d)", None])

    def test_chosen_circles(self):
        for text, eyes, above, beneath in [
            ("a", ["a"], None, None), ("a", ["b"], "a", "a"), ("a & b", ["a"], "b", None), ("a | b", ["a"], None, "b"),
            ("a & b", ["a", "b"], None, None), ("a | b", ["b", "a"], None, None), ("b & a & c", ["a"], "b & c", None),
            ("c | a | b", ["a"], None, "b | c"), ("(a & b) | (a & c)", ["c"], "a", "a & b"),
            ("(a & b) | c", ["a"], "b | c", "c"), ("(a | b) & c", ["a"], "c", "b & c"),
            ("a & (b | c)", ["z"], "a & (b | c)", "a & (b | c)"), ("a & (b | c)", ["b", "c"], "a", None),
        ]:
            self.assertEqual(text_out(text, *eyes), above, (text, eyes))
            self.assertEqual(text_out(text, *eyes, above=True), above)
            self.assertEqual(text_out(text, *eyes, above=False), beneath, (text, eyes))

    def test_the_circle_that_is_meant(self):
        # Among all small circles without the eyes: told by t, and telling each other one that is told by t.
        for t in all_circles("abc", 4)[::3]:
            for names in ["a", "b", "ab", "ca", "abc", "az"]:
                rest = "".join(name for name in "abc" if name not in names)
                others = all_circles(rest, 4) if rest else []
                above, beneath = out(t, *names), out(t, *names, above=False)
                told = [s for s in others if tells(t, s)]
                telling = [s for s in others if tells(s, t)]
                self.assertIs(above is None, told == [])
                self.assertIs(beneath is None, telling == [])
                if above is not None:
                    self.assertTrue(tells(t, above) and is_key(above))
                    self.assertTrue(all(tells(above, s) for s in told))
                    self.assertFalse(set(above.eyes()) & set(names))
                if beneath is not None:
                    self.assertTrue(tells(beneath, t) and is_key(beneath))
                    self.assertTrue(all(tells(s, beneath) for s in telling))
                    self.assertFalse(set(beneath.eyes()) & set(names))

    def test_without_eyes_it_is_the_key(self):
        source = random.Random(351)
        for _ in range(150):
            circle = random_circle(source, 10)
            self.assertEqual(out(circle), key_of(circle))
            self.assertEqual(out(circle, above=False), key_of(circle))
            self.assertEqual(out(circle, "zz", "y"), key_of(circle))
            self.assertEqual(out(circle, "zz", above=False), key_of(circle))

    def test_at_once_and_one_by_one(self):
        source = random.Random(352)
        names = ["a", "b", "c", "d", "long"]
        for _ in range(150):
            circle = random_circle(source, 10)
            eyes = source.sample(names, source.randint(1, 4))
            for above in [True, False]:
                whole = out(circle, *eyes, above=above)
                for order in itertools.permutations(eyes):
                    found = circle
                    for name in order:
                        found = None if found is None else out(found, name, above=above)
                    self.assertEqual(found, whole)
                    self.assertEqual(out(circle, *order, above=above), whole)
                self.assertEqual(out(circle, *eyes, *eyes, above=above), whole)

    def test_mirrored_circles(self):
        source = random.Random(353)
        for _ in range(150):
            circle = random_circle(source, 10)
            above, beneath = out(circle, "a", "d"), out(mirrored(circle), "a", "d", above=False)
            self.assertIs(above is None, beneath is None)
            if above is not None:
                self.assertTrue(always_alike(mirrored(above), beneath))

    def test_always_alike_circles_have_the_same(self):
        source = random.Random(354)
        for _ in range(150):
            circle = random_circle(source, 8)
            other = circle & (circle | random_circle(source, 4))
            for eyes in [["a"], ["b", "c"], ["long", "a", "d"]]:
                self.assertEqual(out(circle, *eyes), out(other, *eyes))
                self.assertEqual(out(circle, *eyes, above=False), out(other, *eyes, above=False))

    def test_great_circles(self):
        for depth in [19, 20]:
            circle = to_depth(depth, 60)
            for name in ["a", "b", circle.eyes()[-1]]:
                for one in [circle, mirrored(circle)]:
                    above, beneath = out(one, name), out(one, name, above=False)
                    for found in [above, beneath]:
                        self.assertTrue(found is None or name not in found.eyes() and is_key(found))
                    self.assertTrue(above is None or tells(one, above))
                    self.assertTrue(beneath is None or tells(beneath, one))
                    self.assertFalse(above is None and beneath is None)
        wide, flat = common(*eyes_to(60)), pool(*eyes_to(60))
        names = [str(one) for one in eyes_to(59)]
        self.assertEqual([out(flat, *names), out(wide, *names)], [eye("bh"), None])
        self.assertEqual([out(flat, *names, above=False), out(wide, *names, above=False)], [None, eye("bh")])

    def test_wrong_names(self):
        for value in but_names():
            for above in [True, False]:
                self.refused(InvalidName, {"value": value}, out, eye("a"), value, above=above)
                self.refused(InvalidName, {"value": value}, out, eye("a"), "a", "b", value, above=above)
                self.refused(InvalidName, {"value": value}, out, read_circle("a & b"), "a", value, "B", None,
                             above=above)
        self.refused(InvalidName, {"value": "B"}, out, eye("a"), "B", None, "")
        self.refused(InvalidName, {"value": None}, out, eye("a"), "abcdef", None, "B", "abcdefg")
