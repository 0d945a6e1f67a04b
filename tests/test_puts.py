"""Promises 4 and 7: putting in, mirroring, exchanging, and the circles in a circle."""

import random
import unittest

from pooledeyes.circles import common, eye, pool
from pooledeyes.circletexts import read_circle
from pooledeyes.errors import InvalidName, TooMany
from pooledeyes.puts import circles_in, exchanged, mirrored, put_in
from tests.anyvalues import any_values
from tests.making import deepened, eyes_to, names_to
from tests.plain import PlainTooMany, plain_of, plain_put_in, plain_text, random_plain


def put(text, **images):
    """The text of a circle with images put in, all as texts."""
    return str(put_in(read_circle(text), {name: read_circle(image) for name, image in images.items()}))


class PutInTest(unittest.TestCase):
    def refused(self, what, most, circle, images):
        """Whether putting in is refused with this TooMany."""
        with self.assertRaises(TooMany) as caught:
            put_in(circle, images)
        self.assertEqual((caught.exception.what, caught.exception.most), (what, most))

    def test_one_image(self):
        self.assertEqual(put("a", a="b | c"), "b | c")
        self.assertEqual(put("a & b", a="c"), "c & b")
        self.assertEqual(put("a & b", a="c | d"), "(c | d) & b")
        self.assertEqual(put("a & (b | a)", a="c & d"), "c & d & (b | (c & d))")

    def test_the_circle_is_built_anew(self):
        self.assertEqual(put("a & b", a="c & d"), "c & d & b")
        self.assertEqual(put("a & b", a="b"), "b")
        self.assertEqual(put("a & (b | c)", b="c"), "a & c")
        self.assertEqual(put("a & (b | c)", b="c", c="a"), "a & (c | a)")
        self.assertEqual(put("a & (b | c)", b="a", c="a"), "a")
        self.assertEqual(put("(a & b) | c", a="x", b="x"), "x | c")
        self.assertEqual(put("(a & b) | c", a="x | y", b="x | y"), "x | y | c")

    def test_all_at_once(self):
        self.assertEqual(put("a & b", a="b", b="a"), "b & a")
        self.assertEqual(put("a | (b & c)", a="b", b="c", c="a"), "b | (c & a)")
        self.assertEqual(put("a", a="a & b"), "a & b")
        self.assertEqual(put("a | c", a="a & c", c="a"), "(a & c) | a")

    def test_other_eyes_stay(self):
        self.assertEqual(put("a & (b | c)"), "a & (b | c)")
        self.assertEqual(put("a & (b | c)", d="e", z="a"), "a & (b | c)")
        self.assertEqual(put("a & (b | c)", d="e", c="d"), "a & (b | d)")

    def test_images_in_any_order(self):
        circle = read_circle("a & (b | c) & d")
        images = {"a": read_circle("b | d"), "b": read_circle("a & c"), "c": eye("a"), "z": eye("q")}
        wanted = put_in(circle, images)
        for names in [["z", "c", "b", "a"], ["b", "a", "z", "c"], ["c", "z", "a", "b"]]:
            self.assertEqual(put_in(circle, {name: images[name] for name in names}), wanted)
        self.assertEqual(str(wanted), "(b | d) & ((a & c) | a) & d")

    def test_arguments_by_name(self):
        self.assertEqual(put_in(images={"a": eye("b")}, circle=eye("a")), eye("b"))

    def test_what_is_passed_stays(self):
        circle, image = read_circle("a & (b | c)"), read_circle("b & d")
        images = {"c": image, "a": image}
        put_in(circle, images)
        put_in(circle, images).parts().clear()
        self.assertEqual([str(circle), str(image)], ["a & (b | c)", "b & d"])
        self.assertEqual([list(images), list(images.values())], [["c", "a"], [image, image]])

    def test_sixty_and_sixty_one_eyes(self):
        circle = pool(*eyes_to(41))
        self.assertEqual(put_in(circle, {"a": pool(*[eye("z" + name) for name in names_to(20)])}).size, 60)
        self.refused("eyes", 60, circle, {"a": pool(*[eye("z" + name) for name in names_to(21)])})
        self.assertEqual(put_in(circle, {"a": common(*[eye("z" + name) for name in names_to(20)])}).size, 60)
        self.refused("eyes", 60, circle, {"a": common(*[eye("z" + name) for name in names_to(21)])})

    def test_depth_twenty_and_twenty_one(self):
        deep = deepened(eye("a"), 18)
        self.assertEqual([deep.kind, deep.depth], ["common", 18])
        self.assertEqual(put_in(read_circle("b | (c & d)"), {"d": deep}).depth, 20)
        self.refused("depth", 20, read_circle("b & (c | (e & d))"), {"d": deep})
        self.assertEqual(put_in(read_circle("b & (c | d)"), {"d": deep}).depth, 19)

    def test_the_inner_circle_is_refused_first(self):
        deep, wide = deepened(eye("a"), 20), pool(*eyes_to(60))
        self.assertEqual(deep.kind, "common")
        self.refused("depth", 20, read_circle("w | (b & d)"), {"d": deep, "w": wide})
        self.refused("eyes", 60, read_circle("d & (x | w)"), {"d": deep, "w": wide})

    def test_the_left_circle_is_refused_first(self):
        deep, wide = deepened(eye("a"), 20), pool(*eyes_to(60))
        images = {"d": deep, "w": wide}
        self.refused("depth", 20, read_circle("(d & b) | (w & zz)"), images)
        self.refused("eyes", 60, read_circle("(w & zz) | (d & b)"), images)
        self.refused("depth", 20, read_circle("(x & (y | (b & d))) | (w & zz)"), images)
        self.refused("eyes", 60, read_circle("(x & (y | (w & zz))) | (d & b)"), images)

    def test_eyes_ahead_of_depth(self):
        deep = deepened(pool(*eyes_to(40)), 19)
        self.assertEqual([deep.kind, deep.size, deep.depth], ["common", 59, 20])
        self.refused("depth", 20, read_circle("d & zz"), {"d": deep})
        self.refused("eyes", 60, read_circle("d & zz & zzz"), {"d": deep})

    def test_flattened_circles_are_checked(self):
        wide = pool(*eyes_to(60))
        circle = read_circle("((b & y) | c) & a")
        self.refused("eyes", 60, circle, {"b": wide, "c": read_circle("a")})

    def test_random_images(self):
        source = random.Random(6)
        for _ in range(600):
            plain = random_plain(source, source.randint(1, 12))
            images = {name: random_plain(source, source.randint(1, 12)) for name in "abcd" if source.random() < 0.7}
            circle = read_circle(plain_text(plain))
            passed = {name: read_circle(plain_text(image)) for name, image in images.items()}
            try:
                wanted = plain_put_in(plain, images)
            except PlainTooMany as error:
                self.refused(error.what, {"eyes": 60, "depth": 20}[error.what], circle, passed)
            else:
                self.assertEqual(plain_of(put_in(circle, passed)), wanted)


class MirroredTest(unittest.TestCase):
    def test_texts(self):
        for text, wanted in [("a", "a"), ("a & b", "a | b"), ("a | b | c", "a & b & c"),
                             ("a & (b | c)", "a | (b & c)"), ("(a & (b | c)) | d", "(a | (b & c)) & d")]:
            self.assertEqual(str(mirrored(read_circle(text))), wanted)
            self.assertEqual(str(mirrored(circle=read_circle(wanted))), text)

    def test_random_circles(self):
        source = random.Random(7)
        for _ in range(200):
            circle = read_circle(plain_text(random_plain(source, source.randint(1, 30))))
            text = str(circle)
            wanted = text.replace("&", "!").replace("|", "&").replace("!", "|")
            self.assertEqual(str(mirrored(circle)), wanted)
            self.assertEqual(mirrored(mirrored(circle)), circle)
            self.assertEqual(str(circle), text)

    def test_the_greatest_circle(self):
        circle = deepened(pool(*eyes_to(41)), 19)
        self.assertEqual([mirrored(circle).size, mirrored(circle).depth], [60, 20])


class ExchangedTest(unittest.TestCase):
    def test_texts(self):
        for text, wanted in [("a", "b"), ("b", "a"), ("c", "c"), ("a & b", "b & a"), ("a | c", "b | c"),
                             ("a & (b | c)", "b & (a | c)"), ("(a & b) | (b & a)", "(b & a) | (a & b)")]:
            for first, second in [("a", "b"), ("b", "a")]:
                self.assertEqual(str(exchanged(read_circle(text), first, second)), wanted)
            self.assertEqual(str(exchanged(second="b", first="a", circle=read_circle(text))), wanted)

    def test_the_same_eye(self):
        for text in ["a", "a & (b | c)", "c | d"]:
            self.assertEqual(str(exchanged(read_circle(text), "a", "a")), text)

    def test_eyes_that_it_does_not_have(self):
        self.assertEqual(str(exchanged(read_circle("a & (b | c)"), "b", "abcdef")), "a & (abcdef | c)")
        self.assertEqual(str(exchanged(read_circle("a & b"), "x", "y")), "a & b")

    def test_no_names(self):
        circle = read_circle("a & b")
        for value in any_values():
            if not isinstance(value, str) or value not in ["a", "abcdef"]:
                for first, second in [(value, "a"), ("a", value), (value, value), (value, "A")]:
                    with self.assertRaises(InvalidName) as caught:
                        exchanged(circle, first, second)
                    self.assertIs(caught.exception.value, value)

    def test_the_first_name_is_refused_first(self):
        with self.assertRaises(InvalidName) as caught:
            exchanged(eye("a"), "B", "C")
        self.assertEqual(caught.exception.value, "B")

    def test_the_circle_stays(self):
        circle = read_circle("a & (b | c)")
        exchanged(circle, "a", "b")
        self.assertEqual(str(circle), "a & (b | c)")

    def test_the_greatest_circle(self):
        circle = deepened(pool(*eyes_to(41)), 19)
        other = exchanged(circle, "a", "b")
        self.assertEqual([other.size, other.depth, exchanged(other, "b", "a")], [60, 20, circle])


class CirclesInTest(unittest.TestCase):
    def test_texts(self):
        for text, wanted in [
            ("a", ["a"]),
            ("b & a", ["b & a", "b", "a"]),
            ("a & (b | c)", ["a & (b | c)", "a", "b | c", "b", "c"]),
            ("(a | b) & b & (c | a)", ["(a | b) & b & (c | a)", "a | b", "a", "b", "c | a", "c"]),
            ("(c & (a | b)) | (a & (a | b))",
             ["(c & (a | b)) | (a & (a | b))", "c & (a | b)", "c", "a | b", "a", "b", "a & (a | b)"]),
        ]:
            found = circles_in(read_circle(text))
            self.assertIsInstance(found, list)
            self.assertEqual([str(circle) for circle in found], wanted)

    def test_by_name(self):
        self.assertEqual(circles_in(circle=eye("a")), [eye("a")])

    def test_returned_lists_are_new(self):
        circle = read_circle("a & (b | c)")
        found = circles_in(circle)
        circles_in(circle).clear()
        circles_in(circle).append(eye("z"))
        self.assertEqual([str(one) for one in circles_in(circle)], [str(one) for one in found])
        self.assertEqual(str(circle), "a & (b | c)")

    def test_random_circles(self):
        source = random.Random(8)
        for _ in range(200):
            circle = read_circle(plain_text(random_plain(source, source.randint(1, 20))))
            wanted = list(dict.fromkeys(texts_ahead(circle)))
            self.assertEqual([str(one) for one in circles_in(circle)], wanted)


def texts_ahead(circle):
    """The texts of a circle and of the circles in its parts, also if they stood ahead."""
    yield str(circle)
    for part in circle.parts():
        yield from texts_ahead(part)


if __name__ == "__main__":
    unittest.main()
