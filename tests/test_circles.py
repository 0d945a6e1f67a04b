"""Promises 3 and 4: circles, how they are built, and their bounds."""

import random
import unittest

from pooledeyes.circles import Circle, common, eye, pool
from pooledeyes.errors import InvalidCircle, InvalidName, TooMany
from tests.anyvalues import any_values, without_circles
from tests.making import deepened, eyes_to, names_to
from tests.plain import PlainTooMany, plain_built, plain_depth, plain_eyes, plain_of, plain_text, random_plain

MAKERS = {"&": pool, "|": common}


def made(plain):
    """The circle of a plain circle, made by pool and common."""
    if isinstance(plain, str):
        return eye(plain)
    return MAKERS[plain[0]](*[made(part) for part in plain[1]])


class EyeTest(unittest.TestCase):
    def test_an_eye(self):
        for name in ["a", "abcdef", "pool", "z"]:
            for circle in [eye(name), eye(name=name)]:
                self.assertIsInstance(circle, Circle)
                seen = [circle.kind, circle.name, circle.size, circle.depth, circle.parts(), circle.eyes()]
                self.assertEqual(seen, ["eye", name, 1, 0, [], [name]])
                self.assertEqual([str(circle), repr(circle)], [name, f"Circle({name})"])

    def test_no_name(self):
        names = ["a", "abcdef"]
        for value in any_values():
            if not isinstance(value, str) or value not in names:
                with self.assertRaises(InvalidName) as caught:
                    eye(value)
                self.assertIs(caught.exception.value, value)

    def test_no_name_by_name(self):
        with self.assertRaises(InvalidName) as caught:
            eye(name="abcdefg")
        self.assertEqual(caught.exception.value, "abcdefg")


class BuildingTest(unittest.TestCase):
    def setUp(self):
        self.a, self.b, self.c, self.d = eye("a"), eye("b"), eye("c"), eye("d")

    def test_a_pool(self):
        circle = pool(self.b, self.a)
        seen = [circle.kind, circle.name, circle.size, circle.depth, str(circle), repr(circle), circle.eyes()]
        self.assertEqual(seen, ["pool", "", 2, 1, "b & a", "Circle(b & a)", ["a", "b"]])
        self.assertEqual(circle.parts(), [self.b, self.a])

    def test_a_common(self):
        circle = common(self.b, self.a)
        seen = [circle.kind, circle.name, circle.size, circle.depth, str(circle), repr(circle), circle.eyes()]
        self.assertEqual(seen, ["common", "", 2, 1, "b | a", "Circle(b | a)", ["a", "b"]])
        self.assertEqual(circle.parts(), [self.b, self.a])

    def test_parentheses(self):
        circle = pool(self.a, common(self.b, self.c))
        self.assertEqual([str(circle), circle.size, circle.depth], ["a & (b | c)", 3, 2])
        circle = common(circle, self.a)
        self.assertEqual([str(circle), circle.size, circle.depth], ["(a & (b | c)) | a", 4, 3])
        self.assertEqual(circle.eyes(), ["a", "b", "c"])

    def test_one_circle_is_the_result(self):
        for circle in [self.a, pool(self.a, self.b), common(self.a, self.b)]:
            for maker in [pool, common]:
                self.assertEqual(str(maker(circle)), str(circle))
                self.assertEqual(maker(circle).kind, circle.kind)
                self.assertEqual(str(maker(circle, circle, circle)), str(circle))

    def test_parts_stand_in_place_of_a_circle_of_the_same_kind(self):
        self.assertEqual(str(pool(self.a, pool(self.b, self.c), self.d)), "a & b & c & d")
        self.assertEqual(str(common(self.a, common(self.b, self.c), self.d)), "a | b | c | d")
        self.assertEqual(str(pool(self.a, common(self.b, self.c), self.d)), "a & (b | c) & d")
        self.assertEqual(pool(pool(self.a, self.b), pool(self.c, self.d)).depth, 1)

    def test_only_the_first_of_equal_texts_stays(self):
        self.assertEqual(str(pool(self.b, self.a, self.b, self.a, self.c)), "b & a & c")
        self.assertEqual(str(pool(self.c, pool(self.a, self.c), self.b)), "c & a & b")
        inner = common(self.a, self.b)
        self.assertEqual(str(pool(inner, self.a, common(self.a, self.b))), "(a | b) & a")
        self.assertEqual(str(pool(inner, common(self.b, self.a))), "(a | b) & (b | a)")

    def test_equal_parts_may_leave_a_circle_of_the_other_kind(self):
        inner = common(self.a, self.b)
        circle = pool(inner, inner)
        self.assertEqual([circle.kind, str(circle), circle.depth], ["common", "a | b", 1])

    def test_signs(self):
        self.assertEqual(str(self.a & self.b), "a & b")
        self.assertEqual(str(self.a | self.b), "a | b")
        self.assertEqual(str(self.a & self.b & self.c), "a & b & c")
        self.assertEqual(str(self.a & (self.b | self.c)), "a & (b | c)")
        self.assertEqual(str(self.a | self.b & self.c), "a | (b & c)")
        self.assertEqual(str(self.a & self.a), "a")
        self.assertEqual(str((self.a | self.b) | (self.b | self.c)), "a | b | c")

    def test_signs_leave_their_circles(self):
        circle = self.a & self.b
        again = circle
        again &= self.c
        self.assertEqual([str(circle), str(again), str(self.a)], ["a & b", "a & b & c", "a"])

    def test_signs_take_circles_alone(self):
        for value in [None, 1, "a", [self.a]]:
            with self.assertRaises(TypeError):
                self.a & value
            with self.assertRaises(TypeError):
                self.a | value

    def test_no_circles(self):
        for maker in [pool, common]:
            with self.assertRaises(InvalidCircle) as caught:
                maker()
            self.assertEqual(caught.exception.at, 0)

    def test_values_that_are_no_circles(self):
        for maker in [pool, common]:
            for value in without_circles():
                for values, at in [([value], 0), ([self.a, value], 1), ([value, self.a], 0),
                                   ([self.a, self.b, value, None], 2), ([self.a, self.a, self.a, value], 3)]:
                    with self.assertRaises(InvalidCircle) as caught:
                        maker(*values)
                    self.assertEqual(caught.exception.at, at)

    def test_lists_of_circles_are_no_circles(self):
        for value in [[self.a], (self.a, self.b), [], "a"]:
            with self.assertRaises(InvalidCircle) as caught:
                pool(self.a, value)
            self.assertEqual(caught.exception.at, 1)

    def test_a_wrong_value_is_refused_ahead_of_too_many(self):
        for maker in [pool, common]:
            with self.assertRaises(InvalidCircle) as caught:
                maker(*eyes_to(70), None)
            self.assertEqual(caught.exception.at, 70)

    def test_random_circles(self):
        source = random.Random(1)
        for _ in range(400):
            plain = random_plain(source, source.randint(1, 25))
            circle = made(plain)
            self.assertEqual(plain_of(circle), plain)
            self.assertEqual(str(circle), plain_text(plain))
            self.assertEqual(repr(circle), "Circle(" + plain_text(plain) + ")")
            self.assertEqual(circle.size, len(plain_eyes(plain)))
            self.assertEqual(circle.depth, plain_depth(plain))
            self.assertEqual(circle.eyes(), sorted(set(plain_eyes(plain))))

    def test_random_rows_of_circles(self):
        source = random.Random(2)
        for _ in range(400):
            row = [random_plain(source, source.randint(1, 4)) for _ in range(source.randint(1, 6))]
            circles = [made(plain) for plain in row]
            for sign, maker in MAKERS.items():
                self.assertEqual(plain_of(maker(*circles)), plain_built(sign, row))
            self.assertEqual([plain_of(circle) for circle in circles], row)


class ValueTest(unittest.TestCase):
    def test_limit(self):
        self.assertEqual(Circle.LIMIT, 60)
        self.assertEqual(eye("a").LIMIT, 60)

    def test_equal_texts(self):
        a, b = eye("a"), eye("b")
        self.assertTrue(eye("a") == a)
        self.assertFalse(eye("a") != a)
        self.assertTrue(pool(a, b) == a & b)
        self.assertTrue(a & (b | a) == pool(a, common(b, a)))
        for other in [b, a & b, a | b, pool(b, a), a & (a | b)]:
            self.assertFalse(a == other)
            self.assertTrue(a != other)
        self.assertFalse(a & b == b & a)
        self.assertFalse(a & b == a | b)

    def test_equal_to_nothing_of_another_class(self):
        for circle in [eye("a"), eye("a") & eye("b")]:
            for value in without_circles() + [str(circle), repr(circle), [str(circle)], circle.parts()]:
                self.assertFalse(circle == value)
                self.assertFalse(value == circle)
                self.assertTrue(circle != value)

    def test_always_true(self):
        for circle in [eye("a"), eye("a") & eye("b"), eye("a") | eye("b")]:
            self.assertTrue(circle)
            self.assertIs(bool(circle), True)

    def test_returned_lists_are_new(self):
        for circle in [eye("c"), eye("b") & eye("a"), eye("b") | eye("a")]:
            parts, eyes = circle.parts(), circle.eyes()
            self.assertIsInstance(parts, list)
            self.assertIsInstance(eyes, list)
            circle.parts().append(eye("z"))
            circle.parts().clear()
            circle.eyes().append("z")
            circle.eyes().clear()
            self.assertEqual([circle.parts(), circle.eyes()], [parts, eyes])

    def test_what_is_passed_stays(self):
        row = [eye("a") & eye("b"), eye("a"), eye("b") | eye("c")]
        texts = [str(circle) for circle in row]
        for maker in [pool, common]:
            maker(*row)
            maker(*row).parts().clear()
        self.assertEqual([str(circle) for circle in row], texts)
        self.assertEqual([len(circle.parts()) for circle in row], [2, 0, 2])

    def test_eyes_ascend_once_each(self):
        circle = pool(eye("ba"), common(eye("b"), eye("ab")), common(eye("ba"), eye("aa")), eye("z"), eye("a"))
        self.assertEqual(circle.eyes(), ["a", "aa", "ab", "b", "ba", "z"])
        self.assertEqual(circle.size, 7)


class BoundsTest(unittest.TestCase):
    def refused(self, what, most, make, *circles):
        """Whether making something of circles is refused with this TooMany."""
        with self.assertRaises(TooMany) as caught:
            make(*circles)
        self.assertEqual((caught.exception.what, caught.exception.most), (what, most))

    def test_sixty_eyes(self):
        for maker in [pool, common]:
            circle = maker(*eyes_to(60))
            self.assertEqual([circle.size, len(circle.parts()), circle.depth], [60, 60, 1])
            self.assertEqual(circle.eyes(), sorted(names_to(60)))

    def test_sixty_one_eyes(self):
        for maker in [pool, common]:
            self.refused("eyes", 60, maker, *eyes_to(61))
            self.refused("eyes", 60, maker, *eyes_to(400))
            self.refused("eyes", 60, maker, maker(*eyes_to(60)), eye("zz"))

    def test_signs_keep_the_bound(self):
        circle = pool(*eyes_to(60))
        self.assertEqual((circle & eye("a")).size, 60)
        self.refused("eyes", 60, lambda: circle & eye("zz"))
        self.refused("eyes", 60, lambda: circle | eye("zz"))
        self.refused("eyes", 60, lambda: eye("a") | circle)

    def test_written_eyes_count_as_often_as_they_stand(self):
        half, rest = pool(*eyes_to(30)), pool(*list(reversed(eyes_to(30))))
        self.assertEqual([common(half, rest).size, len(common(half, rest).eyes())], [60, 30])
        self.refused("eyes", 60, common, half, rest, eye("a"))

    def test_what_is_left_out_does_not_count(self):
        for maker in [pool, common]:
            self.assertEqual(maker(*(eyes_to(60) * 3)).size, 60)
        half = pool(*eyes_to(40))
        self.assertEqual(common(half, half).size, 40)
        self.assertEqual(pool(half, pool(*eyes_to(60))).size, 60)

    def test_depth_twenty(self):
        circle = deepened(eye("a"), 20)
        self.assertEqual([circle.depth, circle.size], [20, 21])
        for maker in [pool, common]:
            self.assertEqual(maker(circle), circle)

    def test_depth_twenty_one(self):
        circle = deepened(eye("a"), 20)
        makers = {"pool": common, "common": pool}
        self.refused("depth", 20, makers[circle.kind], circle, eye("b"))
        self.refused("depth", 20, makers[circle.kind], eye("b"), circle)
        same = {"pool": pool, "common": common}[circle.kind](circle, eye("b"))
        self.assertEqual(same.depth, 20)

    def test_signs_keep_the_depth(self):
        circle = deepened(eye("a"), 20)
        self.assertEqual(circle.kind, "common")
        self.refused("depth", 20, lambda: circle & eye("b"))
        self.assertEqual((circle | eye("b")).depth, 20)

    def test_the_greatest_circle(self):
        circle = deepened(pool(*eyes_to(41)), 19)
        self.assertEqual([circle.size, circle.depth], [60, 20])

    def test_eyes_ahead_of_depth(self):
        circle = deepened(pool(*eyes_to(41)), 19)
        makers = {"pool": common, "common": pool}
        self.refused("eyes", 60, makers[circle.kind], circle, eye("b"))
        less = deepened(pool(*eyes_to(40)), 19)
        self.assertEqual([less.size, less.depth], [59, 20])
        self.refused("depth", 20, makers[less.kind], less, eye("b"))

    def test_random_great_circles(self):
        source = random.Random(3)
        for _ in range(300):
            row = []
            for _ in range(source.randint(1, 4)):
                row.append(random_plain(source, source.randint(1, 40)))
            circles = [made(plain) for plain in row]
            for sign, maker in MAKERS.items():
                try:
                    wanted = plain_built(sign, row)
                except PlainTooMany as error:
                    self.refused(error.what, {"eyes": 60, "depth": 20}[error.what], maker, *circles)
                else:
                    self.assertEqual(plain_of(maker(*circles)), wanted)


if __name__ == "__main__":
    unittest.main()
