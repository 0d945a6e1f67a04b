"""Frames: what is refused, and in which order."""

from pooledeyes.circles import common, eye, pool
from pooledeyes.circletexts import read_circle
from pooledeyes.errors import InvalidNumber, TooMany
from pooledeyes.frames import Frame, count_cases, count_ties, laid_ties
from tests.anyvalues import but_numbers
from tests.making import eyes_to, to_depth, with_ties
from tests.refusing import RefusingTest

TIES = {"what": "ties", "most": 256}


def laying(circle, **named):
    """The ties of the frame of a circle, by laid_ties."""
    return laid_ties(circle, 1, 2, 3, **named)


class RefusedTest(RefusingTest):
    def test_rounds(self):
        for value in but_numbers(1, 4):
            for function in [laying, Frame, count_ties, count_cases]:
                for circle in [eye("a"), read_circle("a | b"), to_depth(20, 60)]:
                    self.refused(InvalidNumber, {"value": value}, function, circle, rounds=value)
                    self.refused(InvalidNumber, {"value": value}, function, circle, rounds=value, less=0)
                    self.refused(InvalidNumber, {"value": value}, function, circle, rounds=value, less=2)
                    self.refused(InvalidNumber, {"value": value}, function, circle, less=None, rounds=value)

    def test_less(self):
        for value in but_numbers(0, 1):
            for function in [laying, Frame, count_ties, count_cases]:
                for circle in [eye("a"), read_circle("a | b"), to_depth(20, 60)]:
                    self.refused(InvalidNumber, {"value": value}, function, circle, less=value)
                    self.refused(InvalidNumber, {"value": value}, function, circle, less=value, rounds=4)

    def test_the_first_wrong_thing_counts(self):
        great = to_depth(20, 60)
        for function in [laying, Frame, count_ties, count_cases]:
            self.refused(InvalidNumber, {"value": 0}, function, great, rounds=0, less=7)
            self.refused(InvalidNumber, {"value": True}, function, great, rounds=True, less=False)
            self.refused(InvalidNumber, {"value": False}, function, great, rounds=1, less=False)
            self.refused(InvalidNumber, {"value": 5}, function, eye("a"), rounds=5, less=-1)

    def test_too_many_ties(self):
        for many in [253, 254, 255, 256, 257, 258]:
            circle = with_ties(many)
            self.assertEqual(count_ties(circle), many)
            for function in [laying, Frame]:
                if many <= 256:
                    self.assertEqual(len(function(circle)), many)
                else:
                    self.refused(TooMany, TIES, function, circle)
                    self.refused(TooMany, TIES, function, circle, rounds=2, less=0)

    def test_too_many_ties_by_rounds_and_less(self):
        wide = common(pool(*eyes_to(4)), *eyes_to(60)[4:])
        most = {(4, 0): 240, (4, 1): 239, (2, 0): 120}
        for (rounds, less), ties in most.items():
            self.assertEqual(len(Frame(wide, rounds=rounds, less=less)), ties)
        # 32 parts that are pools of two eyes: 64 ties in each round would be too many eyes, so 30 and a deeper one.
        deeper = common(*[pool(one, two) for one, two in zip(eyes_to(28), eyes_to(56)[28:])],
                        pool(eye("y"), common(eye("za"), eye("zb"))))
        for rounds, less in [(rounds, less) for rounds in (1, 2, 3, 4) for less in (0, 1)]:
            ties = rounds * (56 + 1 + 2 * rounds - less) - less * (1 + 2 * rounds - less)
            self.assertEqual(count_ties(deeper, rounds=rounds, less=less), ties)
            for function in [laying, Frame]:
                if ties <= 256:
                    self.assertEqual(len(function(deeper, rounds=rounds, less=less)), ties)
                else:
                    self.refused(TooMany, TIES, function, deeper, rounds=rounds, less=less)

    def test_a_limit_met_by_a_step_left_out(self):
        # In two rounds 257 ties and more, with a step left out 256 at most.
        found = []
        for many in range(257, 300):
            circle = with_ties(many)
            self.refused(TooMany, TIES, Frame, circle)
            left = count_ties(circle, less=1)
            found.append(left <= 256)
            if left <= 256:
                self.assertEqual(len(Frame(circle, less=1)), left)
            else:
                self.refused(TooMany, TIES, Frame, circle, less=1)
        self.assertIn(True, found)

    def test_frames_of_great_circles(self):
        for circle in [to_depth(20, 60), to_depth(20, 21), to_depth(19, 60)]:
            for function in [laying, Frame]:
                self.refused(TooMany, TIES, function, circle)
                self.refused(TooMany, TIES, function, circle, rounds=4, less=1)
            self.assertGreater(count_ties(circle), 256)
            self.assertGreater(count_cases(circle, rounds=4, less=1), 1000)
            self.assertEqual(len(Frame(circle, rounds=1)), circle.size)
