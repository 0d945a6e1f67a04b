"""Stretches: what is refused, in which order, and that a refused lay changes nothing."""

from pooledeyes.circles import common, eye, pool
from pooledeyes.circletexts import read_circle
from pooledeyes.errors import InvalidCase, InvalidName, NotAlike, TooMany, UnknownEye
from pooledeyes.frames import count_cases
from pooledeyes.partings import together
from pooledeyes.stretches import Stretch
from pooledeyes.worlds import World
from tests.anyvalues import but_names, but_numbers
from tests.making import eyes_to, to_depth
from tests.refusing import RefusingTest

CASES = {"what": "cases", "most": 120}
AB = read_circle("a | b")


def filled(spots):
    """A stretch with the eyes a, b, c of so many spots, a multiple of 3, of which the first 3 are cases."""
    stretch = Stretch(World(3, [("a", 1, 2), ("b", 2, 3)]), ["c"])
    while stretch.spots < spots:
        stretch.lay(AB, 1, stretch.spots)
    return stretch


class RefusedTest(RefusingTest):
    def kept(self, stretch, error, told, circle, one, other):
        """A lay is refused, and nothing changes."""
        before = stretch.world()
        far = [stretch.distance(spot, 1) for spot in range(1, stretch.spots + 1)]
        self.refused(error, told, stretch.lay, circle, one, other)
        self.refused(error, told, stretch.lay, other=other, one=one, circle=circle)
        self.assertEqual([stretch.world(), len(stretch), stretch.spots], [before, before.many, before.many])
        self.assertEqual([stretch.distance(1, spot) for spot in range(1, stretch.spots + 1)], far)

    def test_wrong_names(self):
        for value in but_names():
            self.refused(InvalidName, {"value": value}, Stretch, World(2), [value])
            self.refused(InvalidName, {"value": value}, Stretch, World(2), ("a", "b", value, "B", None))
            self.refused(InvalidName, {"value": value}, Stretch, eyes=["a", value], world=World(2))

    def test_wrong_spots(self):
        stretch = Stretch(World(3, [("a", 1, 2), ("b", 2, 3)]))
        stretch.lay(AB, 1, 3)
        for value in but_numbers(1, 6):
            for other in [1, 6, 0, 7, None]:
                self.refused(InvalidCase, {"value": value}, stretch.distance, value, other)
                self.refused(InvalidCase, {"value": value}, stretch.distance, other=other, one=value)
            self.refused(InvalidCase, {"value": value}, stretch.distance, 6, value)
            self.refused(InvalidCase, {"value": value}, stretch.distance, value, value)
        for value in but_numbers(1, 6):
            for other in [1, 0, None]:
                self.kept(stretch, InvalidCase, {"value": value}, eye("a"), value, other)
            self.kept(stretch, InvalidCase, {"value": value}, AB, 4, value)

    def test_unknown_eyes(self):
        stretch = Stretch(World(3, [("b", 1, 2), ("d", 2, 3)]), ["f"])
        for text, name in [("a", "a"), ("b & c", "c"), ("z | y | x", "x"), ("e & (a | b)", "a"), ("f | g", "g"),
                           ("g | (b & e)", "e"), ("ff & b", "ff")]:
            for one, other in [(1, 2), (1, 3), (0, 2), (None, None), (1, 4)]:
                self.kept(stretch, UnknownEye, {"name": name}, read_circle(text), one, other)
        self.kept(stretch, UnknownEye, {"name": "aa"}, common(*eyes_to(60)[6:]), 0, 0)

    def test_spots_that_are_not_alike(self):
        stretch = Stretch(World(3, [("a", 1, 2), ("b", 2, 3)]), ["c"])
        for text, one, other in [("a", 1, 3), ("a", 3, 2), ("b", 1, 2), ("a & b", 1, 2), ("c", 1, 2), ("a | c", 2, 3)]:
            self.kept(stretch, NotAlike, {"one": one, "other": other}, read_circle(text), one, other)
        stretch.lay(AB, 1, 3)
        # By now 4 is alike to 1 for a, and 5 is as far from 4 as b goes.
        self.kept(stretch, NotAlike, {"one": 4, "other": 1}, eye("b"), 4, 1)
        self.kept(stretch, NotAlike, {"one": 5, "other": 4}, eye("a"), 5, 4)
        self.assertEqual(stretch.lay(eye("a"), 4, 1), (4, 1))
        self.assertEqual(stretch.lay(AB, 5, 1), (5, 1, 7, 8, 9))

    def test_the_order_of_the_errors(self):
        stretch = Stretch(World(121, [("a", 1, 2)]), ["b"])
        deep = common(AB & eye("b"), pool(eye("a"), eye("c")))
        self.kept(stretch, UnknownEye, {"name": "c"}, deep, 0, 122)
        self.kept(stretch, InvalidCase, {"value": 0}, AB, 0, 122)
        self.kept(stretch, InvalidCase, {"value": 122}, AB, 121, 122)
        self.kept(stretch, NotAlike, {"one": 1, "other": 3}, AB, 1, 3)
        self.kept(stretch, TooMany, CASES, AB, 1, 2)

    def test_too_many_spots(self):
        for spots in [117, 120]:
            self.assertEqual(filled(spots).spots, spots)
        stretch = filled(117)
        self.kept(stretch, TooMany, CASES, read_circle("a | b | c"), 1, 2)
        self.kept(stretch, TooMany, CASES, read_circle("(a & (b | c)) | b"), 1, 1)
        self.assertEqual(stretch.lay(AB, 117, 117), (117, 117, 118, 119, 120))
        for circle in [AB, AB & eye("a"), read_circle("a | b | c")]:
            self.kept(stretch, TooMany, CASES, circle, 1, 1)
        # With 120 spots, what makes no new spot is let.
        self.assertEqual(stretch.lay(eye("a"), 1, 2), (1, 2))
        self.assertEqual(stretch.lay(eye("a") & eye("b"), 120, 120), (120, 120))

    def test_119_to_122_spots(self):
        for cases in [115, 116, 117, 118, 119, 120, 121, 122]:
            stretch = Stretch(World(cases, [("a", 1, 2)]), ["b"])
            if cases + 3 <= 120:
                self.assertEqual(stretch.lay(AB, 2, 1), (2, 1, cases + 1, cases + 2, cases + 3))
                self.assertEqual(stretch.spots, cases + 3)
            else:
                self.kept(stretch, TooMany, CASES, AB, 2, 1)
            stretch = Stretch(World(cases, [("a", 1, 2)]), ["b"])
            if cases <= 120:
                self.assertEqual(stretch.lay(eye("a"), 1, 2), (1, 2))
                self.assertEqual(stretch.lay(read_circle("a & b"), cases, cases), (cases, cases))
            else:
                # Also where no spot is new.
                self.kept(stretch, TooMany, CASES, eye("a"), 1, 2)
                self.kept(stretch, TooMany, CASES, read_circle("a & b"), cases, cases)

    def test_great_circles(self):
        for circle in [to_depth(20, 60), to_depth(20, 21)]:
            self.assertGreater(count_cases(circle), 1000)
            stretch = Stretch(World.parted(2, {name: together(2) for name in circle.eyes()}))
            self.kept(stretch, TooMany, CASES, circle, 1, 2)
        names = [str(one) for one in eyes_to(60)]
        stretch = Stretch(World(2), names)
        self.kept(stretch, TooMany, CASES, common(*eyes_to(60)), 1, 1)
        self.kept(stretch, NotAlike, {"one": 1, "other": 2}, common(*eyes_to(60)), 1, 2)
        self.assertEqual(len(stretch.lay(common(*eyes_to(59)), 2, 2)), 2 + 117)
