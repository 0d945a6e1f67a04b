"""Least reasons and idle sayings."""

import random

from pooledeyes.circles import eye
from pooledeyes.circletexts import read_circle
from pooledeyes.errors import CannotStand, InvalidCase, TooMany
from pooledeyes.reasons import idle_sayings, least_reasons
from pooledeyes.sketches import Sketch
from tests.anyvalues import but_numbers
from tests.making import with_ties
from tests.plainsketches import random_sketch
from tests.plainworlds import random_circle
from tests.reading import book_of, sketch_of
from tests.refusing import RefusingTest
from tests.test_lots import all_lots

SAYINGS = {"what": "sayings", "most": 8}
TIES = {"what": "ties", "most": 256}
A = eye("a")


def plain_reasons(sketch, circle, u, v):
    """The least reasons by their definition."""
    sayings = sketch.sayings()
    alike = [at for at, saying in enumerate(sayings) if saying[0] == "alike"]
    good = []
    for lot in all_lots(len(alike)):
        reason = tuple(alike[at] for at in lot)
        if any(set(other) <= set(reason) for other in good):
            continue
        if Sketch(sketch.many, *[sayings[at] for at in reason], under=sketch.book).filling().alike(circle, u, v):
            good.append(reason)
    return good


class LeastReasonsTest(RefusingTest):
    def reasons(self, sketch, circle, u, v, wanted):
        self.assertEqual(least_reasons(sketch, read_circle(circle), u, v), wanted, (sketch.sayings(), circle, u, v))

    def test_chosen_sketches(self):
        sayings = "1 2 alike a, 1 2 unlike c, 2 3 alike b, 1 3 alike a, 1 3 alike a & b, 3 4 alike b"
        sketch = sketch_of(4, sayings, "a > d")
        for circle, u, v, wanted in [("a", 1, 2, [(0,)]), ("a", 1, 1, [()]), ("c", 1, 2, []), ("a", 1, 3, [(3,), (4,)]),
                                     ("d", 1, 3, [(3,), (4,)]), ("a", 2, 3, [(0, 3), (0, 4)]),
                                     ("b", 2, 4, [(2, 5)]), ("b", 1, 2, [(2, 4)]), ("b", 1, 4, [(4, 5)]),
                                     ("a | b", 1, 3, [(3,), (4,), (0, 2)]), ("a & b", 1, 3, [(4,)]),
                                     ("a | d", 4, 1, []), ("d", 2, 3, [(0, 3), (0, 4)]), ("a & d", 1, 2, [(0,)])]:
            self.reasons(sketch, circle, u, v, wanted)
        self.assertEqual(least_reasons(other=2, one=1, circle=A, sketch=sketch), [(0,)])

    def test_sketches_that_do_not_stand(self):
        sketch = sketch_of(2, "1 2 unlike a, 1 2 alike a, 2 1 alike a & b")
        self.assertFalse(sketch.stands())
        self.reasons(sketch, "a", 1, 2, [(1,), (2,)])
        self.reasons(sketch, "b", 1, 2, [(2,)])

    def test_by_definition(self):
        source = random.Random(134)
        seen = set()
        for _ in range(150):
            sketch = random_sketch(source, 3, 5)
            circle, u, v = random_circle(source, 2), source.randint(1, sketch.many), source.randint(1, sketch.many)
            found = least_reasons(sketch, circle, u, v)
            self.assertEqual(found, plain_reasons(sketch, circle, u, v))
            self.assertEqual(found == [], not sketch.filling().alike(circle, u, v))
            seen.add(min(len(found), 2))
        self.assertEqual(seen, {0, 1, 2})

    def test_8_sayings(self):
        sayings = ", ".join(f"{case} {case + 1} alike {name}" for name in "ab" for case in [1, 2, 3, 4])
        sketch = sketch_of(5, "1 1 unlike z, " + sayings + ", 2 2 unlike y")
        self.reasons(sketch, "a", 1, 5, [(1, 2, 3, 4)])
        self.reasons(sketch, "a & b", 1, 3, [(1, 2, 5, 6)])
        self.reasons(sketch, "a | b", 1, 3, [(1, 2), (1, 6), (2, 5), (5, 6)])
        self.reasons(sketch, "a | b", 1, 5, plain_reasons(sketch, read_circle("a | b"), 1, 5))
        self.assertEqual(len(least_reasons(sketch, read_circle("a | b"), 1, 5)), 16)

    def test_new_lists(self):
        sketch = sketch_of(2, "1 2 alike a")
        least_reasons(sketch, A, 1, 2).clear()
        self.assertEqual(least_reasons(sketch, A, 1, 2), [(0,)])

    def test_refused(self):
        nine = Sketch(2, *[("alike", A, 1, 2)] * 9)
        eight = Sketch(2, *[("alike", A, 1, 2)] * 8, *[("unlike", A, 1, 2)] * 4)
        for sketch in [nine, eight]:
            for value in but_numbers(1, 2):
                self.refused(InvalidCase, {"value": value}, least_reasons, sketch, A, value, None)
                self.refused(InvalidCase, {"value": value}, least_reasons, sketch, A, 2, value)
        self.assertEqual(least_reasons(eight, A, 1, 2), [(at,) for at in range(8)])
        for many in [9, 12]:
            sketch = Sketch(2, *[("unlike", eye("z"), 1, 2)] * (12 - many), *[("alike", A, 1, 2)] * many)
            self.refused(TooMany, SAYINGS, least_reasons, sketch, A, 1, 2)
            self.refused(TooMany, SAYINGS, least_reasons, sketch, with_ties(257), 1, 1)
        self.assertEqual(least_reasons(Sketch(2, ("alike", with_ties(256), 1, 2)), with_ties(256), 1, 2), [(0,)])
        self.assertEqual(least_reasons(eight, with_ties(257), 2, 2), [()])


class IdleSayingsTest(RefusingTest):
    def idle(self, many, sayings, book, wanted):
        self.assertEqual(idle_sayings(sketch_of(many, sayings, book)), wanted, (sayings, book))

    def test_chosen_sketches(self):
        self.idle(2, "", "", [])
        self.idle(2, "1 2 alike a", "", [])
        self.idle(2, "1 1 alike a", "", [0])
        self.idle(2, "1 2 unlike a", "", [])
        self.idle(2, "1 2 unlike a, 2 1 unlike a", "", [0, 1])
        self.idle(2, "1 2 alike a, 2 1 alike a", "", [0, 1])
        self.idle(2, "1 2 alike a & b, 2 1 alike a", "", [1])
        self.idle(2, "1 2 unlike a, 1 2 unlike a & b", "", [1])
        self.idle(2, "1 2 alike a, 1 2 alike b", "a > b", [1])
        self.idle(2, "1 2 unlike a, 1 2 unlike b", "a > b", [0])
        self.idle(3, "1 2 alike a, 1 3 unlike a, 2 3 unlike a", "", [1, 2])
        self.idle(3, "1 2 alike a, 2 3 alike a, 1 3 alike a", "", [0, 1, 2])
        self.idle(3, "1 2 alike a, 2 3 alike a, 1 3 alike a, 1 3 unlike b", "b > z", [0, 1, 2])
        self.idle(3, "1 2 alike a, 2 3 alike b, 1 3 alike a | b", "", [2])

    def test_by_definition(self):
        source = random.Random(135)
        seen = set()
        for _ in range(200):
            sketch = random_sketch(source, 3, 4)
            if not sketch.stands():
                self.refused(CannotStand, {"at": sketch.first_broken()}, idle_sayings, sketch)
                continue
            wanted = []
            for at, (word, circle, u, v) in enumerate(sketch.sayings()):
                outlook = sketch.without(at).outlook(circle, u, v)
                if outlook == ("surely" if word == "alike" else "never"):
                    wanted.append(at)
                    seen.add(word)
            self.assertEqual(idle_sayings(sketch=sketch), wanted)
        self.assertEqual(seen, {"alike", "unlike"})

    def test_refused(self):
        great = with_ties(200)
        falls = Sketch(2, ("unlike", with_ties(257), 1, 2), ("alike", great, 1, 2), ("unlike", A, 2, 2))
        self.refused(CannotStand, {"at": 2}, idle_sayings, falls)
        for circle in [with_ties(58), with_ties(257)]:
            whole = circle & eye("zz")
            for sayings in [[("unlike", whole, 1, 2), ("alike", great, 1, 2)],
                            [("alike", great, 1, 2), ("unlike", A, 1, 2), ("unlike", whole, 1, 2)]]:
                self.refused(TooMany, TIES, idle_sayings, Sketch(2, *sayings))
        # 199 of the circle, that of zz and 56 of the alike saying.
        sketch = Sketch(2, ("alike", with_ties(56), 1, 2), ("unlike", with_ties(199) & eye("zz"), 1, 2))
        self.assertEqual(idle_sayings(sketch), [])
        sketch = Sketch(2, ("alike", with_ties(56), 1, 2), ("unlike", with_ties(199) & eye("zz") & eye("yy"), 1, 2))
        self.refused(TooMany, TIES, idle_sayings, sketch)
        self.assertEqual(idle_sayings(Sketch(2, ("alike", with_ties(256), 1, 2))), [])
        self.assertEqual(idle_sayings(Sketch(2, *[("alike", A, 1, 2)] * 12, under=book_of("a > b"))), list(range(12)))
