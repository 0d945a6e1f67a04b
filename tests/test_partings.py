"""Partings: judging, making, meeting and joining them."""

import itertools
import random

from pooledeyes.errors import InvalidNumber, InvalidParting, InvalidTie
from pooledeyes.partings import (all_partings, apart, is_parting, is_within, join_of, lots_of, meet_of, parting_of,
                                 together)
from tests.anyvalues import any_values, but_numbers
from tests.plainworlds import closed, parting_from, relation_of
from tests.refusing import RefusingTest

# How many partings there are of 1, 2, .. cases.
COUNTS = [1, 2, 5, 15, 52, 203]


def plain_is_parting(row):
    """Whether a tuple of numbers has, for each case, the least case that is alike to it."""
    cases = range(len(row))
    return len(row) > 0 and all(row[at] == min(k + 1 for k in cases if row[k] == row[at]) for at in cases)


def no_partings():
    """Values of all kinds but partings."""
    wrong = [value for value in any_values() if value != (1, 2)]
    return wrong + [(0,), (2,), (1, 3), (2, 2), (1, 0), (1, 1, 2), (1, 2, 2, 3), (1, -1), (1, 10 ** 9), (True,),
                    (1, True), (True, 1), (1, 2, True), (1, False), [1], [1, 1], ("1",), (1, "1"), (1, None),
                    (1, (1,)), ((1,),), (1, [1]), "1", tuple(range(2, 2402)), (1,) * 2399 + (2,)]


class JudgingTest(RefusingTest):
    def judged(self, value):
        """What is_parting says of a value, by place and by name, once and again."""
        said = [is_parting(value), is_parting(value), is_parting(value=value)]
        self.assertEqual(said, [said[0]] * 3)
        self.assertIsInstance(said[0], bool)
        return said[0]

    def test_short_tuples(self):
        for many in range(6):
            for row in itertools.product(range(-1 if many < 5 else 1, many + 2), repeat=many):
                self.assertIs(self.judged(row), plain_is_parting(row), row)

    def test_no_partings(self):
        for value in no_partings():
            self.assertIs(self.judged(value), False, value)

    def test_long_tuples(self):
        for row in [apart(2400), together(2400), apart(1200) + (1,) * 1200, tuple(range(1, 2402))]:
            self.assertIs(self.judged(row), True)
            self.assertIs(self.judged(row[:-1] + (0,)), False)
            self.assertIs(self.judged(row[:-1] + (len(row) + 1,)), False)
            self.assertIs(self.judged(list(row)), False)
        self.assertIs(self.judged((1,) * 1200 + (1200,)), False)


class MakingTest(RefusingTest):
    def test_apart_and_together(self):
        self.assertEqual([apart(1), apart(2), apart(many=5)], [(1,), (1, 2), (1, 2, 3, 4, 5)])
        self.assertEqual([together(1), together(2), together(many=5)], [(1,), (1, 1), (1, 1, 1, 1, 1)])
        self.assertEqual([len(apart(2400)), len(set(apart(2400)))], [2400, 2400])
        self.assertEqual([len(together(2400)), set(together(2400))], [2400, {1}])

    def test_lots(self):
        self.assertEqual(lots_of((1,)), [(1,)])
        self.assertEqual(lots_of((1, 2, 1, 4, 2, 1)), [(1, 3, 6), (2, 5), (4,)])
        self.assertEqual(lots_of(parting=(1, 1, 3)), [(1, 2), (3,)])
        self.assertEqual(lots_of(apart(2400)), [(case,) for case in range(1, 2401)])
        self.assertEqual(lots_of(together(2400)), [tuple(range(1, 2401))])

    def test_lots_of_all_partings(self):
        for parting in all_partings(5):
            lots = lots_of(parting)
            self.assertEqual(lots, sorted(lots))
            self.assertEqual(sorted(case for lot in lots for case in lot), [1, 2, 3, 4, 5])
            for lot in lots:
                self.assertEqual(list(lot), sorted(lot))
                self.assertEqual([parting[case - 1] for case in lot], [lot[0]] * len(lot))

    def test_returned_lists_are_new(self):
        parting = (1, 1, 3)
        lots_of(parting).clear()
        lots_of(parting).append((4,))
        self.assertEqual(lots_of(parting), [(1, 2), (3,)])

    def test_parting_of_pairs(self):
        for many, pairs, wanted in [
            (1, [], (1,)), (1, [(1, 1)], (1,)), (4, (), (1, 2, 3, 4)), (4, [(3, 2)], (1, 2, 2, 4)),
            (4, ((4, 3), (3, 2)), (1, 2, 2, 2)), (5, [(4, 5), (2, 1), (5, 1)], (1, 1, 3, 1, 1)),
            (3, [(2, 2), (3, 3)], (1, 2, 3)), (3, [(1, 3), (1, 3), (3, 1)], (1, 2, 1)),
        ]:
            self.assertEqual(parting_of(many, pairs), wanted)
            self.assertEqual(parting_of(pairs=pairs, many=many), wanted)

    def test_parting_of_random_pairs(self):
        source = random.Random(11)
        for _ in range(300):
            many = source.randint(1, 9)
            pairs = [(source.randint(1, many), source.randint(1, many)) for _ in range(source.randint(0, 8))]
            kept = list(pairs)
            self.assertEqual(parting_of(many, pairs), parting_from(many, closed(many, pairs)))
            self.assertEqual(pairs, kept)

    def test_parting_of_many_cases(self):
        up = [(case, case + 1) for case in range(1, 2400)]
        for pairs in [up, up[::-1], [(v, u) for u, v in up], [(v, u) for u, v in up][::-1],
                      [(2400, case) for case in range(2399, 0, -1)], up[::2] + up[1::2]]:
            self.assertEqual(parting_of(2400, pairs), together(2400))
        self.assertEqual(parting_of(2400, up[:1199] + up[1200:]), (1,) * 1200 + (1201,) * 1200)
        self.assertEqual(parting_of(2400, [(1, 2400)]), apart(2399) + (1,))

    def test_parting_of_wrong_numbers(self):
        for value in but_numbers(1, 2400):
            for pairs in [[], [(1, 1)], None, [None]]:
                self.refused(InvalidNumber, {"value": value}, parting_of, value, pairs)
        self.assertEqual(parting_of(2400, []), apart(2400))

    def test_parting_of_wrong_rows(self):
        for value in any_values():
            if not isinstance(value, (list, tuple)):
                self.refused(InvalidTie, {"at": -1}, parting_of, 3, value)
        self.refused(InvalidTie, {"at": -1}, parting_of, many=3, pairs={(1, 2): True})

    def test_parting_of_wrong_pairs(self):
        wrong = [value for value in any_values() if value != (1, 2)]
        for value in wrong + [(1, 4), (0, 1), (1, 0), (4, 1), (1, -1), (True, 1), (1, False), (1, 2, 3), [1, 2],
                              (1, "2"), (1, None), (1, (2,)), ("a", 1, 2)]:
            for ahead, behind in [([], []), ([(1, 2)], [None]), ([(1, 1), (3, 2)], [(0, 0), (1, 2)])]:
                told = {"at": len(ahead)}
                self.refused(InvalidTie, told, parting_of, 3, ahead + [value] + behind)
                self.refused(InvalidTie, told, parting_of, 3, tuple(ahead + [value] + behind))


class MeetAndJoinTest(RefusingTest):
    def test_all_pairs_of_partings(self):
        for many in range(1, 5):
            rows = list(all_partings(many))
            relations = {row: relation_of(row) for row in rows}
            for first, second in itertools.product(rows, repeat=2):
                one, other = relations[first], relations[second]
                self.assertIs(is_within(first, second), one <= other)
                self.assertEqual(meet_of(first, second), parting_from(many, one & other))
                self.assertEqual(join_of(first, second), parting_from(many, closed(many, one | other)))

    def test_the_meet_is_the_greatest_and_the_join_the_least(self):
        rows = list(all_partings(4))
        for first, second in itertools.product(rows, repeat=2):
            meet, join = meet_of(first, second), join_of(first, second)
            for row in rows:
                self.assertIs(is_within(row, first) and is_within(row, second), is_within(row, meet))
                self.assertIs(is_within(first, row) and is_within(second, row), is_within(join, row))

    def test_by_name(self):
        self.assertEqual(meet_of(second=(1, 1, 1), first=(1, 2, 1)), (1, 2, 1))
        self.assertEqual(join_of(second=(1, 1, 3), first=(1, 2, 2)), (1, 1, 1))
        self.assertIs(is_within(second=(1, 1, 1), first=(1, 2, 1)), True)
        self.assertIs(is_within(first=(1, 1, 1), second=(1, 2, 1)), False)

    def test_one_case(self):
        for function in [meet_of, join_of]:
            self.assertEqual(function((1,), (1,)), (1,))
        self.assertIs(is_within((1,), (1,)), True)

    def test_many_cases(self):
        odd = tuple(case - (case + 1) % 2 for case in range(1, 2401))
        even = tuple(case - case % 2 for case in range(1, 2401))
        even = (1,) + even[1:]
        self.assertEqual(join_of(odd, even), together(2400))
        self.assertEqual(meet_of(odd, even), apart(2400))
        self.assertEqual([is_within(odd, even), is_within(apart(2400), odd), is_within(odd, together(2400))],
                         [False, True, True])
        self.assertEqual([meet_of(odd, odd), join_of(odd, odd), is_within(odd, odd)], [odd, odd, True])

    def test_no_partings(self):
        for function in [meet_of, join_of, is_within]:
            for value in no_partings():
                told = {"value": value}
                self.refused(InvalidParting, told, function, value, (1, 2))
                self.refused(InvalidParting, told, function, (1, 2), value)
                self.refused(InvalidParting, told, function, second=(1, 2), first=value)
                self.refused(InvalidParting, told, function, value, (3,))
                self.refused(InvalidParting, told, function, value, None)

    def test_unlike_lengths(self):
        for function in [meet_of, join_of, is_within]:
            for first, second in [((1,), (1, 1)), ((1, 1), (1,)), (together(3), apart(2400))]:
                self.refused(InvalidParting, {"value": second}, function, first, second)
            self.refused(InvalidParting, {"value": (1, 1, 2)}, function, (1, 1), (1, 1, 2))


class AllPartingsTest(RefusingTest):
    def test_few_cases(self):
        self.assertEqual(list(all_partings(1)), [(1,)])
        self.assertEqual(list(all_partings(2)), [(1, 1), (1, 2)])
        self.assertEqual(list(all_partings(many=3)), [(1, 1, 1), (1, 1, 3), (1, 2, 1), (1, 2, 2), (1, 2, 3)])

    def test_each_once_ascending(self):
        for many in range(1, 7):
            rows = list(all_partings(many))
            self.assertEqual(len(rows), COUNTS[many - 1])
            self.assertEqual(rows, sorted(set(rows)))
            self.assertEqual([row for row in rows if not plain_is_parting(row) or len(row) != many], [])

    def test_a_new_start_each_time(self):
        first, second = all_partings(3), all_partings(3)
        self.assertEqual([next(first), next(first), next(second), next(first)],
                         [(1, 1, 1), (1, 1, 3), (1, 1, 1), (1, 2, 1)])
        self.assertEqual(len(list(all_partings(3))), 5)
        self.assertEqual(list(second), [(1, 1, 3), (1, 2, 1), (1, 2, 2), (1, 2, 3)])
        self.assertEqual(list(second), [])

    def test_wrong_numbers_with_the_first_item(self):
        for value in but_numbers(1, 6):
            made = all_partings(value)
            self.refused(InvalidNumber, {"value": value}, next, made)
            made = all_partings(many=value)
            self.refused(InvalidNumber, {"value": value}, list, made)
