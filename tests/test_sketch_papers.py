"""Sketch papers and outlook papers: what they show, and what judges them."""

import random

from pooledeyes.books import Book
from pooledeyes.circles import eye
from pooledeyes.circletexts import read_circle
from pooledeyes.closings import closing_log
from pooledeyes.errors import CannotStand, InvalidCase, TooMany
from pooledeyes.sketches import Sketch
from pooledeyes.sketchpapers import is_outlook_paper, is_sketch_paper, outlook_paper, sketch_paper
from pooledeyes.worlds import World
from tests.anyvalues import any_values, but_numbers
from tests.making import with_ties
from tests.plainlogs import is_number, log_changes, paper_changes, plain_alike, plain_log_shows
from tests.plainsketches import plain_bare, random_sketch
from tests.plainworlds import random_circle
from tests.reading import book_of, sketch_of
from tests.refusing import RefusingTest
from tests.test_sketches import plain_keeps_sketch

A = eye("a")
TIES = {"what": "ties", "most": 256}


def plain_fails(sketch, sayings, at, log):
    """Whether a log of the bare filling of some sayings breaks the unlike one with an index."""
    if not is_number(at, 0, len(sayings) - 1) or sayings[at][0] != "unlike":
        return False
    return plain_log_shows(*plain_bare(sketch.many, sayings), sketch.book.grants(), log, *sayings[at][1:])


def plain_is_sketch_paper(sketch, value):
    """Whether any value is a sketch paper, by the words of the document and over pairs of cases."""
    if not isinstance(value, tuple) or not value or not isinstance(value[0], str):
        return False
    if value[0] == "stands" and len(value) == 2:
        return isinstance(value[1], World) and plain_keeps_sketch(value[1], sketch)
    return value[0] == "fails" and len(value) == 3 and plain_fails(sketch, sketch.sayings(), value[1], value[2])


def plain_is_outlook_paper(sketch, circle, u, v, value):
    """Whether any value is an outlook paper, by the words of the document and over pairs of cases."""
    if not isinstance(value, tuple) or not value or not isinstance(value[0], str):
        return False
    sayings = sketch.sayings()
    if value[0] == "surely" and len(value) == 2:
        return plain_log_shows(*plain_bare(sketch.many, sayings), sketch.book.grants(), value[1], circle, u, v)
    if value[0] == "never" and len(value) == 3:
        return plain_fails(sketch, sayings + [("alike", circle, u, v)], value[1], value[2])
    if value[0] != "open" or len(value) != 3 or not all(isinstance(world, World) for world in value[1:]):
        return False
    keeps = all(plain_keeps_sketch(world, sketch) for world in value[1:])
    return keeps and not plain_alike(value[1], circle, u, v) and plain_alike(value[2], circle, u, v)


def some_sketches(seed, count, cases=3, sayings=3):
    """So many random sketches with small bare fillings, and a circle and two cases for each."""
    source = random.Random(seed)
    found = []
    while len(found) < count:
        sketch = random_sketch(source, cases, sayings)
        circle, u, v = random_circle(source, 2), source.randint(1, sketch.many), source.randint(1, sketch.many)
        if sketch.sayings() and source.random() < 0.5:
            circle, u, v = source.choice(sketch.sayings())[1:]
            circle = circle & random_circle(source, 1)
        if plain_bare(sketch.many, sketch.sayings() + [("alike", circle, u, v)])[0] < 10:
            found.append((sketch, circle, u, v))
    return found


class SketchPaperTest(RefusingTest):
    def test_chosen_papers(self):
        self.assertEqual(sketch_paper(Sketch(1))[0], "stands")
        paper = sketch_paper(sketch_of(2, "1 2 alike a, 1 2 unlike c, 2 1 unlike b", "a > b"))
        self.assertEqual([paper[0], paper[1]], ["fails", 2])
        self.assertEqual(sketch_paper(sketch_of(2, "1 2 alike a, 1 2 unlike b"))[0], "stands")

    def test_right_papers(self):
        words = []
        for sketch, _, _, _ in some_sketches(141, 120):
            paper = sketch_paper(sketch)
            self.assertEqual(paper[0], "stands" if sketch.stands() else "fails")
            self.assertIs(is_sketch_paper(sketch, paper), True)
            self.assertTrue(plain_is_sketch_paper(sketch, paper))
            self.assertEqual(sketch_paper(sketch=sketch), paper)
            words.append(paper[0])
        self.assertGreater(min(words.count("stands"), words.count("fails")), 15)

    def judged(self, sketch, value):
        """is_sketch_paper says what the plain judge says."""
        wanted = plain_is_sketch_paper(sketch, value)
        self.assertIs(is_sketch_paper(sketch, value), wanted, (sketch.many, sketch.sayings(), value))
        return wanted

    def test_any_values(self):
        for sketch in [Sketch(1), sketch_of(2, "1 2 alike a, 1 2 unlike a"), sketch_of(2, "1 1 unlike a")]:
            for value in any_values():
                self.assertIs(is_sketch_paper(sketch, value), False)
                self.judged(sketch, ("stands", value))
                self.judged(sketch, ("fails", 0, value))
                self.judged(sketch, ("fails", value, []))
                self.judged(sketch, (value, 0, []))
        for value in but_numbers(0, 0):
            self.assertIs(is_sketch_paper(sketch_of(2, "1 1 unlike a"), ("fails", value, [])), False)
        self.assertIs(is_sketch_paper(value=("fails", 0, ()), sketch=sketch_of(2, "1 1 unlike a")), True)
        self.assertIs(is_sketch_paper(Sketch(2), ("stands", World(2))), True)
        self.assertIs(is_sketch_paper(Sketch(2), ("stands", World(1))), False)

    def test_changed_papers(self):
        source = random.Random(142)
        counts = {"stands": 0, "fails": 0, "wrong": 0}
        for sketch, _, _, _ in some_sketches(143, 60):
            paper = sketch_paper(sketch)
            log = closing_log(sketch.bare(), sketch.book)
            filling = sketch.filling()
            values = [paper] + paper_changes(paper) + [("fails", at, log) for at in range(-4, 5)]
            values += [("stands", world) for world in [filling, filling.tied("a", 1, filling.many), World(1), World(2),
                                                       sketch.bare(), filling + World(2), World(3, [("a", 1, 2)])]]
            for at, saying in enumerate(sketch.sayings()):
                values += [("fails", at, one) for one in log_changes(source, log)[:30]]
            for value in values:
                counts[value[0] if self.judged(sketch, value) else "wrong"] += 1
        self.assertGreater(min(counts.values()), 60)


class OutlookPaperTest(RefusingTest):
    def test_right_papers(self):
        words = []
        for sketch, circle, u, v in some_sketches(144, 400):
            if not sketch.stands():
                self.refused(CannotStand, {"at": sketch.first_broken()}, outlook_paper, sketch, circle, u, v)
                continue
            paper = outlook_paper(sketch, circle, u, v)
            self.assertEqual(paper[0], sketch.outlook(circle, u, v))
            self.assertIs(is_outlook_paper(sketch, circle, u, v, paper), True)
            self.assertTrue(plain_is_outlook_paper(sketch, circle, u, v, paper))
            self.assertEqual(outlook_paper(other=v, one=u, circle=circle, sketch=sketch), paper)
            words.append(paper[0])
        self.assertGreater(min(words.count(word) for word in ["surely", "never", "open"]), 10)

    def judged(self, sketch, circle, u, v, value):
        """is_outlook_paper says what the plain judge says."""
        wanted = plain_is_outlook_paper(sketch, circle, u, v, value)
        self.assertIs(is_outlook_paper(sketch, circle, u, v, value), wanted,
                      (sketch.many, sketch.sayings(), str(circle), u, v, value))
        return wanted

    def test_any_values(self):
        for sketch in [Sketch(2), sketch_of(2, "1 2 alike a, 1 2 unlike a & b"), sketch_of(2, "1 1 unlike a")]:
            for value in any_values():
                self.assertIs(is_outlook_paper(sketch, eye("b"), 1, 2, value), False)
                for paper in [("surely", value), ("never", 0, value), ("never", value, []), (value, [], []),
                              ("open", value, World(2)), ("open", World(2), value)]:
                    self.judged(sketch, eye("b"), 1, 2, paper)
        sketch = sketch_of(2, "1 2 unlike a")
        for value in but_numbers(0, 0):
            self.assertIs(is_outlook_paper(sketch, A, 1, 2, ("never", value, [])), False)
        self.assertIs(is_outlook_paper(sketch, A, 1, 2, ("never", 0, [])), True)
        self.assertIs(is_outlook_paper(sketch, A, 1, 1, ("surely", ())), True)

    def test_changed_papers(self):
        source = random.Random(145)
        counts = {"surely": 0, "never": 0, "open": 0, "wrong": 0}
        for sketch, circle, u, v in some_sketches(146, 60):
            further = Sketch(sketch.many, *sketch.sayings(), ("alike", circle, u, v), under=sketch.book)
            log, more = closing_log(sketch.bare(), sketch.book), closing_log(further.bare(), sketch.book)
            one, other = sketch.filling(), further.filling()
            values = [("surely", log), ("surely", more), ("open", one, other), ("open", other, one), ("open", one, one),
                      ("open", other, other), ("open", World(sketch.many), other), ("open", one + World(1), other)]
            values += [("never", at, some) for at in range(-4, 5) for some in [log, more]]
            values += [("surely", some) for some in log_changes(source, log)[:25]]
            at = len(sketch) and source.randrange(len(sketch))
            values += [("never", at, some) for some in log_changes(source, more)[:25]]
            if sketch.stands():
                paper = outlook_paper(sketch, circle, u, v)
                values += [paper] + paper_changes(paper)
            for value in values:
                counts[value[0] if self.judged(sketch, circle, u, v, value) else "wrong"] += 1
        self.assertGreater(min(counts.values()), 50)

    def test_a_sketch_that_stands_has_papers_of_one_kind(self):
        for sketch, circle, u, v in some_sketches(147, 80):
            if sketch.stands():
                further = Sketch(sketch.many, *sketch.sayings(), ("alike", circle, u, v), under=sketch.book)
                more = closing_log(further.bare(), sketch.book)
                papers = [("surely", closing_log(sketch.bare(), sketch.book)),
                          ("open", sketch.filling(), further.filling())]
                papers += [("never", at, more) for at in range(len(sketch))]
                words = {paper[0] for paper in papers if is_outlook_paper(sketch, circle, u, v, paper)}
                self.assertEqual(words, {sketch.outlook(circle, u, v)})

    def test_refused_cases(self):
        falls = Sketch(2, ("unlike", A, 1, 1))
        great = with_ties(257)
        for value in but_numbers(1, 2):
            for sketch in [Sketch(2), falls]:
                self.refused(InvalidCase, {"value": value}, outlook_paper, sketch, great, value, None)
                self.refused(InvalidCase, {"value": value}, outlook_paper, sketch, great, 1, value)
                self.refused(InvalidCase, {"value": value}, is_outlook_paper, sketch, A, value, None, ("surely", []))
                self.refused(InvalidCase, {"value": value}, is_outlook_paper, sketch, A, 1, value, None)
        self.refused(CannotStand, {"at": 0}, outlook_paper, falls, great, 1, 2)
        self.refused(TooMany, TIES, outlook_paper, Sketch(2), great, 1, 2)
        self.assertEqual(outlook_paper(Sketch(2), great, 1, 1), ("surely", []))

    def test_a_sketch_that_does_not_stand_is_judged_by_the_words(self):
        falls = sketch_of(2, "1 2 alike a, 1 2 unlike b", "a > b")
        self.assertIs(is_outlook_paper(falls, A, 1, 2, ("surely", [])), True)
        self.assertIs(is_outlook_paper(falls, eye("c"), 1, 2, ("never", 1, [(0, 1, 2)])), True)
        self.assertIs(is_outlook_paper(falls, eye("c"), 1, 2, ("never", 1, [])), False)
        self.assertIs(is_outlook_paper(falls, eye("c"), 1, 2, ("never", 0, [(0, 1, 2)])), False)

    def test_257_ties(self):
        sketch = Sketch(2, ("alike", with_ties(200), 1, 2), ("unlike", A, 1, 2))
        more = with_ties(200).eyes()[-1]
        self.assertEqual(sketch.outlook(A & eye(more), 1, 1), "surely")
        fits, fails = with_ties(55) & A & eye("zz"), with_ties(55) & A & eye("zz") & eye("yy")
        for circle, wanted in [(fits, True), (fails, False)]:
            pooled = Sketch(2, ("alike", with_ties(200), 1, 2), ("unlike", eye("zz"), 1, 2))
            self.assertIs(is_outlook_paper(pooled, circle, 1, 2, ("never", 1, [])), wanted, circle.size)
        self.assertIs(is_outlook_paper(Sketch(2, under=Book()), with_ties(257), 1, 2, ("surely", [])), False)
        self.assertIs(is_outlook_paper(Sketch(2), with_ties(257), 2, 2, ("surely", [])), True)
        ties = [(name, 1, 2) for name in with_ties(257).eyes()]
        self.assertIs(is_outlook_paper(Sketch(2), with_ties(257), 1, 2, ("open", World(2), World(2, ties))), True)

    def test_the_example(self):
        sketch = Sketch(3, ("alike", read_circle("a | b"), 1, 2), ("alike", read_circle("a & c"), 2, 3),
                        under=book_of("a | b > c"))
        self.assertEqual([outlook_paper(sketch, eye("c"), 1, 3)[0], outlook_paper(sketch, A, 2, 3)[0],
                          outlook_paper(sketch, A, 1, 2)[0]], ["surely", "surely", "open"])
