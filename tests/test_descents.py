"""What is always told, and the descents that show it."""

import itertools
import random

from pooledeyes.circles import common, eye, pool
from pooledeyes.circletexts import is_circle_text, read_circle
from pooledeyes.descents import always_alike, descent_of, is_descent, tells
from pooledeyes.frames import Frame, count_ties
from pooledeyes.puts import mirrored
from pooledeyes.worlds import World
from tests.making import eyes_to, to_depth
from tests.plain import plain_of
from tests.plainframes import plain_tells
from tests.plainworlds import random_circle, random_worlds
from tests.refusing import RefusingTest

LAWS = [
    # The left one always tells the right one, and not the other way round.
    ("a & b", "a"), ("a & b", "a | b"), ("a", "a | b"), ("a & b & c", "c & a"), ("a | c", "c | b | a"),
    ("(a & b) | (a & c)", "a & (b | c)"), ("a | (b & c)", "(a | b) & (a | c)"),
    ("(a & b) | (a & (b | c))", "b | (a & c) | (a & (b | c))"), ("a & (b | (a & c))", "a & (b | c)"),
    ("(a & b) | (b & c) | (c & a)", "(a | b) & (b | c) & (c | a)"),
]
ALIKE = [
    ("a", "a"), ("a & b", "b & a"), ("a | b", "b | a"), ("a & (a | b)", "a"), ("a | (a & b)", "a"),
    ("a & (b | (a & b))", "a & b"), ("(a & b) | (a & (b | (a & c)))", "a & (b | (a & c))"),
    ("(a | b) & (b | a) & c", "c & (a | b)"), ("a | (b & (a | (b & c)))", "a | (b & c)"),
]
UNLIKE = [("a", "b"), ("a & b", "c"), ("a | b", "a & b"), ("a", "a & b"), ("a | b", "a"), ("a & (b | c)", "b"),
          ("a & (b | c)", "(a & b) | (a & c)"), ("a & b", "c | d"), ("a & (b | c)", "b | (c & (a | b))")]


def random_pairs(seed, count, size):
    """So many pairs of random circles of few eyes."""
    source = random.Random(seed)
    return [(random_circle(source, size), random_circle(source, size)) for _ in range(count)]


def chosen_pairs():
    """The pairs of circles of all lists above, and the circles of each pair put together."""
    for first, second in LAWS + ALIKE + UNLIKE:
        t, s = read_circle(first), read_circle(second)
        for pair in [(t, s), (s, t), (t, t), (t & s, t), (t, t & s), (t | s, t), (t, s | t), (t & s, s | t)]:
            yield pair


class TellsTest(RefusingTest):
    def test_chosen_circles(self):
        for first, second in LAWS:
            self.assertIs(tells(read_circle(first), read_circle(second)), True, (first, second))
            self.assertIs(tells(read_circle(second), read_circle(first)), False, (second, first))
            self.assertIs(always_alike(read_circle(first), read_circle(second)), False)
            self.assertIs(always_alike(read_circle(second), read_circle(first)), False)
        for first, second in ALIKE:
            for t, s in [(first, second), (second, first)]:
                self.assertIs(tells(t=read_circle(t), s=read_circle(s)), True, (t, s))
                self.assertIs(always_alike(t=read_circle(t), s=read_circle(s)), True, (t, s))
        for first, second in UNLIKE:
            self.assertIs(tells(read_circle(first), read_circle(second)), False, (first, second))

    def test_the_example(self):
        t, s = read_circle("a & (b | c)"), read_circle("(a & b) | (a & c)")
        self.assertEqual([tells(t, s), tells(s, t)], [False, True])

    def test_the_second_way(self):
        for t, s in random_pairs(311, 1500, 9):
            wanted = plain_tells(plain_of(t), plain_of(s))
            self.assertIs(tells(t, s), wanted)
            self.assertIs(always_alike(t, s), wanted and plain_tells(plain_of(s), plain_of(t)))

    def test_as_the_frame_shows_it(self):
        found = []
        for t, s in itertools.chain(chosen_pairs(), random_pairs(312, 500, 6)):
            if count_ties(t, rounds=4) <= 256:
                found.append(tells(t, s))
                for rounds in [2, 3, 4]:
                    self.assertIs(Frame(t, rounds=rounds).shows(s), tells(t, s), (t, s, rounds))
        self.assertGreater(found.count(True), 50)
        self.assertGreater(found.count(False), 200)

    def test_one_round_and_steps_left_out_show_no_less(self):
        more = 0
        for t, s in itertools.chain(chosen_pairs(), random_pairs(313, 500, 6)):
            for rounds, less in [(1, 0), (1, 1), (2, 1), (3, 1)]:
                if count_ties(t, rounds=rounds, less=less) <= 256:
                    shown = Frame(t, rounds=rounds, less=less).shows(s)
                    self.assertTrue(shown or not tells(t, s))
                    more += shown and not tells(t, s)
        self.assertGreater(more, 0)

    def test_one_round_may_show_more(self):
        t, s = read_circle("a & (b | c)"), read_circle("b | (c & (a | b))")
        self.assertEqual([Frame(t, rounds=rounds).shows(s) for rounds in [1, 2, 3, 4]], [True, False, False, False])

    def test_in_all_worlds(self):
        pairs = list(chosen_pairs()) + random_pairs(314, 80, 6)
        for world, _ in random_worlds(315, 40, 7):
            for t, s in pairs:
                if tells(t, s):
                    self.assertTrue(world.tells(t, s))
        for t, s in pairs:
            if count_ties(t) <= 256:
                # The frame is a world of its own: it refutes all that t does not always tell.
                self.assertIs(Frame(t).world().tells(t, s), tells(t, s))

    def test_from_each_circle_to_itself(self):
        for t, s in random_pairs(316, 300, 20):
            self.assertIs(tells(t, t), True)
            self.assertIs(always_alike(s, s), True)

    def test_on_to_a_third_circle(self):
        circles = [read_circle(text) for pair in LAWS + ALIKE + UNLIKE for text in pair]
        told = {(at, to): tells(t, s) for at, t in enumerate(circles) for to, s in enumerate(circles)}
        for one, two, three in itertools.product(range(len(circles)), repeat=3):
            if told[one, two] and told[two, three]:
                self.assertTrue(told[one, three])

    def test_least_and_greatest(self):
        # A pool is the greatest lower bound, a common the least upper one.
        for t, s in random_pairs(317, 300, 6):
            third = random_circle(random.Random(str(t)), 5)
            self.assertIs(tells(third, t & s), tells(third, t) and tells(third, s))
            self.assertIs(tells(t | s, third), tells(t, third) and tells(s, third))
            self.assertTrue(tells(t & s, t) and tells(t, t | s) and always_alike(t & s, s & t))

    def test_mirrored_circles_tell_the_other_way(self):
        for t, s in itertools.chain(chosen_pairs(), random_pairs(318, 500, 8)):
            self.assertIs(tells(t, s), tells(mirrored(s), mirrored(t)))
            self.assertIs(always_alike(t, s), always_alike(mirrored(t), mirrored(s)))

    def test_either_or(self):
        for t, s in random_pairs(319, 120, 9):
            given = sorted(set(t.eyes() + s.eyes() + ["x"]))
            for name in given:
                rest = [eye(other) for other in given if other != name]
                if rest:
                    self.assertIsNot(tells(eye(name), t), tells(t, common(*rest)))
                    self.assertIsNot(tells(t, eye(name)), tells(pool(*rest), t))
        self.assertIs(tells(eye("a"), eye("a")), True)
        self.assertIs(tells(eye("a"), common(eye("b"))), False)

    def test_great_circles(self):
        wide, flat = common(*eyes_to(60)), pool(*eyes_to(60))
        self.assertEqual([tells(flat, wide), tells(wide, flat), tells(wide, wide), tells(flat, flat)],
                         [True, False, True, True])
        self.assertEqual([tells(flat, eye("bh")), tells(eye("bh"), wide), tells(eye("bi"), wide)], [True, True, False])
        for depth in [19, 20]:
            for size in [21, 40, 60]:
                deep = to_depth(depth, size)
                self.assertEqual([deep.depth, deep.size], [depth, size])
                self.assertTrue(tells(deep, deep) and always_alike(deep, deep))
                self.assertTrue(tells(mirrored(deep), mirrored(deep)))
                last = eye(deep.eyes()[-1])
                self.assertIs(tells(deep, deep.parts()[0]), deep.kind == "pool")
                self.assertIs(tells(deep.parts()[0], deep), deep.kind == "common")
                self.assertIs(plain_tells(plain_of(deep), last.name), tells(deep, last))

    def test_on_to_a_third_circle_of_a_great_depth(self):
        for depth in [18, 19]:
            circle = to_depth(depth, 40)
            for one in [circle, mirrored(circle)]:
                less, more = pool(one, eye("zzx")), common(one, eye("zzy"))
                self.assertEqual(max(less.depth, more.depth), depth + 1)
                self.assertEqual([tells(less, one), tells(one, more), tells(less, more)], [True] * 3)
                self.assertEqual([tells(one, less), tells(more, one), tells(more, less)], [False] * 3)
                self.assertTrue(is_descent(less, more, descent_of(less, more)))
                self.assertTrue(is_descent(more, more, descent_of(more, more)))

    def test_great_random_circles(self):
        source = random.Random(320)
        for _ in range(40):
            t, s = random_circle(source, 60), random_circle(source, 60)
            self.assertIs(tells(t, t), True)
            self.assertIs(tells(t, s), plain_tells(plain_of(t), plain_of(s)))
            descent = descent_of(t, t)
            self.assertTrue(is_descent(t, t, descent))


class DescentOfTest(RefusingTest):
    def test_none_or_a_right_descent(self):
        for t, s in itertools.chain(chosen_pairs(), random_pairs(321, 400, 8)):
            descent = descent_of(t, s)
            self.assertEqual(descent, descent_of(s=s, t=t))
            if not tells(t, s):
                self.assertIs(descent, None)
                continue
            self.assertIs(type(descent), list)
            self.assertEqual(descent[-1][:2], (str(t), str(s)))
            self.assertIs(is_descent(t, s, descent), True)
            for at, row in enumerate(descent):
                self.assertIs(type(row), tuple)
                p, q, rule, because = row
                self.assertTrue(is_circle_text(p) and is_circle_text(q))
                self.assertIn(rule, ["eye", "each", "all", "left", "right"])
                self.assertIs(type(because), tuple)
                self.assertTrue(all(type(index) is int and 0 <= index < at for index in because))

    def test_small_descents(self):
        self.assertEqual(descent_of(eye("a"), eye("a")), [("a", "a", "eye", ())])
        self.assertIs(descent_of(eye("a"), eye("b")), None)
        self.assertEqual(descent_of(read_circle("a & b"), eye("b")),
                         [("b", "b", "eye", ()), ("a & b", "b", "left", (0,))])
        self.assertEqual(descent_of(eye("a"), read_circle("b | a")),
                         [("a", "a", "eye", ()), ("a", "b | a", "right", (0,))])
        ab = read_circle("a & b")
        self.assertTrue(is_descent(ab, ab, descent_of(ab, ab)))

    def test_descents_are_new(self):
        t = read_circle("a & (b | c)")
        descent_of(t, t).clear()
        self.assertTrue(is_descent(t, t, descent_of(t, t)))

    def test_great_descents(self):
        for circle in [to_depth(20, 60), to_depth(20, 21), to_depth(19, 60), common(*eyes_to(60)), pool(*eyes_to(60))]:
            for one in [circle, mirrored(circle), circle.parts()[0]]:
                self.assertTrue(is_descent(one, one, descent_of(one, one)))
        self.assertTrue(is_descent(pool(*eyes_to(60)), common(*eyes_to(60)),
                                   descent_of(pool(*eyes_to(60)), common(*eyes_to(60)))))

    def test_each_row_holds_in_worlds(self):
        world = World(4, [("a", 1, 2), ("b", 2, 3), ("c", 1, 4), ("b", 1, 4)])
        for t, s in random_pairs(322, 100, 8):
            for p, q, _, _ in descent_of(t, s) or []:
                self.assertTrue(world.tells(read_circle(p), read_circle(q)))
