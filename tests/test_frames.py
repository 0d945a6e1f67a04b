"""Frames: laying circles, and what frames are and show."""

import itertools
import random

from pooledeyes.circles import Circle, common, eye, pool
from pooledeyes.circletexts import read_circle
from pooledeyes.frames import Frame, ROUNDS, count_cases, count_ties, laid_ties
from pooledeyes.worlds import World
from tests.anyvalues import any_values
from tests.making import eyes_to, to_depth, with_ties
from tests.plainframes import plain_frame, plain_laid
from tests.plainworlds import random_circle
from tests.refusing import RefusingTest

WAYS = [(rounds, less) for rounds in (1, 2, 3, 4) for less in (0, 1)]
DOC = [("a", 1, 2), ("b", 1, 3), ("c", 3, 4), ("b", 4, 5), ("c", 5, 2)]


def small_circles(seed, count, size):
    """So many random circles of at most so many written eyes."""
    source = random.Random(seed)
    return [random_circle(source, size) for _ in range(count)]


class LaidTiesTest(RefusingTest):
    def test_an_eye(self):
        for rounds, less in WAYS:
            self.assertEqual(laid_ties(eye("a"), 1, 2, 3, rounds=rounds, less=less), [("a", 1, 2)])
        self.assertEqual(laid_ties(eye("sixsix"), 7, 7, 100), [("sixsix", 7, 7)])
        self.assertEqual(laid_ties(eye("a"), 5, 2, 6), [("a", 5, 2)])

    def test_a_pool(self):
        circle = read_circle("c & a & b")
        for rounds, less in WAYS:
            self.assertEqual(laid_ties(circle, 4, 2, 9, rounds=rounds, less=less),
                             [("c", 4, 2), ("a", 4, 2), ("b", 4, 2)])

    def test_a_common(self):
        circle = read_circle("b | a")
        for (rounds, less), wanted in [
            ((1, 0), [("b", 1, 9), ("a", 9, 2)]), ((1, 1), [("b", 1, 2)]),
            ((2, 0), [("b", 1, 9), ("a", 9, 10), ("b", 10, 11), ("a", 11, 2)]),
            ((2, 1), [("b", 1, 9), ("a", 9, 10), ("b", 10, 2)]),
            ((3, 1), [("b", 1, 9), ("a", 9, 10), ("b", 10, 11), ("a", 11, 12), ("b", 12, 2)]),
        ]:
            self.assertEqual(laid_ties(circle, 1, 2, 9, rounds=rounds, less=less), wanted)
        self.assertEqual(laid_ties(circle, 1, 2, 9), laid_ties(circle, 1, 2, 9, rounds=2, less=0))
        self.assertEqual(laid_ties(circle, 4, 4, 9, rounds=1), [("b", 4, 9), ("a", 9, 4)])

    def test_the_path_of_a_common_comes_first(self):
        # The path takes 3 to 5, the first inner common 6 to 8, the second one 9 to 11.
        circle = read_circle("(a & (b | c)) | d")
        self.assertEqual(laid_ties(circle, 1, 2, 3), [
            ("a", 1, 3), ("b", 1, 6), ("c", 6, 7), ("b", 7, 8), ("c", 8, 3), ("d", 3, 4),
            ("a", 4, 5), ("b", 4, 9), ("c", 9, 10), ("b", 10, 11), ("c", 11, 5), ("d", 5, 2)])
        self.assertEqual(laid_ties(circle, 1, 2, 3, rounds=1), [
            ("a", 1, 3), ("b", 1, 4), ("c", 4, 3), ("d", 3, 2)])
        self.assertEqual(laid_ties(circle, 1, 2, 3, less=1), [
            ("a", 1, 3), ("b", 1, 5), ("c", 5, 6), ("b", 6, 3), ("d", 3, 4),
            ("a", 4, 2), ("b", 4, 7), ("c", 7, 8), ("b", 8, 2)])

    def test_pools_of_commons(self):
        circle = read_circle("(a | b) & (c | d)")
        self.assertEqual(laid_ties(circle, 1, 2, 3), [
            ("a", 1, 3), ("b", 3, 4), ("a", 4, 5), ("b", 5, 2), ("c", 1, 6), ("d", 6, 7), ("c", 7, 8), ("d", 8, 2)])

    def test_the_second_way(self):
        for circle in small_circles(301, 150, 9):
            for rounds, less in WAYS:
                wanted = plain_frame(circle, rounds, less)
                if len(wanted) <= 256:
                    self.assertEqual(laid_ties(circle, 1, 2, 3, rounds=rounds, less=less), wanted)
                    self.assertEqual(laid_ties(circle, 8, 5, 40, rounds=rounds, less=less),
                                     plain_laid(circle, 8, 5, itertools.count(40), rounds, less))

    def test_by_name_and_new_lists(self):
        circle = read_circle("a & (b | c)")
        self.assertEqual(laid_ties(fresh=3, second=2, first=1, circle=circle), DOC)
        self.assertEqual(laid_ties(less=0, rounds=2, fresh=3, second=2, first=1, circle=circle), DOC)
        laid_ties(circle, 1, 2, 3).clear()
        self.assertEqual(laid_ties(circle, 1, 2, 3), DOC)
        self.assertIs(type(laid_ties(circle, 1, 2, 3)[0]), tuple)

    def test_rounds_and_less_by_name_alone(self):
        for function in [laid_ties]:
            with self.assertRaises(TypeError):
                function(eye("a"), 1, 2, 3, 2)
        for function in [count_ties, count_cases, Frame]:
            with self.assertRaises(TypeError):
                function(eye("a"), 2)

    def test_the_default_is_two_rounds(self):
        self.assertEqual(ROUNDS, 2)
        self.assertIs(type(ROUNDS), int)


class CountsTest(RefusingTest):
    def test_as_many_as_are_laid(self):
        for circle in small_circles(302, 200, 12):
            for rounds, less in WAYS:
                ties = plain_frame(circle, rounds, less)
                self.assertEqual(count_ties(circle, rounds=rounds, less=less), len(ties))
                cases = {1, 2} | {case for _, u, v in ties for case in (u, v)}
                self.assertEqual(count_cases(circle, rounds=rounds, less=less), len(cases))
                self.assertEqual(max(cases), len(cases))
            self.assertEqual(count_ties(circle), len(plain_frame(circle)))
            self.assertEqual(count_cases(circle=circle), count_cases(circle, rounds=2, less=0))

    def test_small_counts(self):
        for text, ties, cases in [("a", 1, 2), ("a & b & c", 3, 2), ("a | b", 4, 5), ("a | b | c", 6, 7),
                                  ("a & (b | c)", 5, 5), ("(a & b) | c", 6, 5), ("a | (b & (c | d))", 12, 11)]:
            circle = read_circle(text)
            self.assertEqual([count_ties(circle), count_cases(circle)], [ties, cases], text)
        self.assertEqual([count_ties(eye("a"), rounds=1, less=1), count_cases(eye("a"), rounds=4, less=1)], [1, 2])
        ab = read_circle("a | b")
        self.assertEqual([count_ties(ab, rounds=r, less=k) for r, k in WAYS], [2, 1, 4, 3, 6, 5, 8, 7])
        self.assertEqual([count_cases(ab, rounds=r, less=k) for r, k in WAYS], [3, 2, 5, 4, 7, 6, 9, 8])
        last = read_circle("a | (b & c & d)")
        self.assertEqual([count_ties(last, rounds=r, less=k) for r, k in WAYS], [4, 1, 8, 5, 12, 9, 16, 13])

    def test_many_parts(self):
        wide = common(*eyes_to(60))
        self.assertEqual([count_ties(wide), count_cases(wide)], [120, 121])
        self.assertEqual([count_ties(wide, rounds=4, less=1), count_cases(wide, rounds=4, less=1)], [239, 240])
        flat = pool(*eyes_to(60))
        self.assertEqual([count_ties(flat, rounds=4), count_cases(flat, rounds=4)], [60, 2])

    def test_great_depths(self):
        # From inside to outside: a pool adds one tie, and a common of two parts takes each in each round.
        ties, cases = 1, 0
        for at in range(1, 21):
            if at % 2:
                ties += 1
            else:
                ties, cases = 4 * (ties + 1), 4 * cases + 7
        deep = to_depth(20, 21)
        self.assertEqual([deep.depth, deep.size], [20, 21])
        self.assertEqual([count_ties(deep, rounds=4), count_cases(deep, rounds=4)], [ties, cases + 2])
        self.assertGreater(ties, 10 ** 6)
        self.assertGreater(count_ties(to_depth(20, 60)), 2000)
        self.assertGreater(count_ties(deep), 2000)
        self.assertGreater(count_cases(deep, rounds=3, less=1), 10000)
        self.assertEqual(count_ties(deep, rounds=1), 21)


class FrameTest(RefusingTest):
    def test_the_example(self):
        frame = Frame(read_circle("a & (b | c)"))
        self.assertEqual([frame.many, frame.ties(), len(frame), repr(frame)], [5, DOC, 5, "Frame(5 ties)"])
        self.assertIs(frame.shows(read_circle("(a & b) | (a & c)")), False)
        self.assertEqual(frame.world().text(), World(5, DOC).text())
        self.assertEqual(frame.world().text(), "cases 5\na 1 1 3 4 5\nb 1 2 1 4 4\nc 1 2 3 3 2\n")

    def test_a_step_left_out_shows_more(self):
        t, s = read_circle("a & (b | c)"), read_circle("b | (c & (a | b))")
        self.assertEqual([Frame(t, less=1).shows(s), Frame(t).shows(s), Frame(t, rounds=3).shows(s)],
                         [True, False, False])

    def test_attributes_and_methods(self):
        for circle in small_circles(303, 60, 7):
            for rounds, less in WAYS:
                if count_ties(circle, rounds=rounds, less=less) > 256:
                    continue
                frame = Frame(circle, rounds=rounds, less=less)
                ties = plain_frame(circle, rounds, less)
                self.assertEqual([frame.circle, frame.rounds, frame.less], [circle, rounds, less])
                self.assertEqual([frame.ties(), len(frame), frame.many],
                                 [ties, len(ties), count_cases(circle, rounds=rounds, less=less)])
                self.assertEqual(frame.world(), World(frame.many, ties))
                self.assertEqual(repr(frame), f"Frame({len(ties)} ties)")
                self.assertIs(bool(frame), True)
                for other in small_circles(304, 8, 5) + [circle]:
                    self.assertIs(frame.shows(other), World(frame.many, ties).alike(other, 1, 2))
                    self.assertIs(frame.shows(circle=other), frame.shows(other))

    def test_an_eye(self):
        frame = Frame(eye("a"))
        self.assertEqual([frame.many, frame.ties(), len(frame), repr(frame)], [2, [("a", 1, 2)], 1, "Frame(1 ties)"])
        self.assertEqual([frame.shows(eye("a")), frame.shows(eye("b"))], [True, False])
        self.assertEqual(Frame(circle=eye("a"), rounds=1, less=1).world(), World(2, [("a", 1, 2)]))

    def test_attributes_are_set_at_once(self):
        self.assertEqual({name: getattr(Frame(eye("a")), name) for name in ["circle", "rounds", "less", "many"]},
                         {"circle": eye("a"), "rounds": 2, "less": 0, "many": 2})
        self.assertIsInstance(Frame(eye("a")).circle, Circle)
        self.assertEqual([Frame.LIMIT, Frame(eye("a")).LIMIT], [256, 256])

    def test_frames_never_change(self):
        frame = Frame(read_circle("a & (b | c)"))
        frame.ties().clear()
        frame.ties().append(("a", 1, 5))
        frame.world().tied("a", 1, 5)
        self.assertEqual(frame.ties(), DOC)
        self.assertEqual(frame.world(), World(5, DOC))

    def test_equal_frames(self):
        circles = [read_circle(text) for text in ["a", "b", "a & b", "b & a", "a | b", "a & (b | c)"]]
        frames = [(at, rounds, less) for at in range(len(circles)) for rounds in (1, 2, 4) for less in (0, 1)]
        for one, other in itertools.product(frames, repeat=2):
            first = Frame(read_circle(str(circles[one[0]])), rounds=one[1], less=one[2])
            second = Frame(circles[other[0]], rounds=other[1], less=other[2])
            self.assertIs(first == second, one == other)
            self.assertIs(first != second, one != other)
        self.assertTrue(Frame(eye("a")) == Frame(eye("a"), rounds=2, less=0))

    def test_frames_equal_nothing_else(self):
        for value in any_values():
            if not isinstance(value, Frame):
                self.assertIs(Frame(eye("a")) == value, False)
                self.assertIs(value == Frame(eye("a")), False)
        self.assertFalse(Frame(eye("a")) == World(2, [("a", 1, 2)]))

    def test_frames_of_256_ties(self):
        for many in [253, 254, 255, 256]:
            circle = with_ties(many)
            frame = Frame(circle)
            self.assertEqual([len(frame), count_ties(circle), repr(frame)], [many, many, f"Frame({many} ties)"])
            self.assertEqual(frame.ties(), plain_frame(circle))
            self.assertEqual(laid_ties(circle, 1, 2, 3), plain_frame(circle))
            self.assertTrue(frame.shows(circle))
