"""Offices: undo and redo, journals, trying, and twins."""

import random

from pooledeyes.errors import (InUse, InvalidDeed, InvalidQuestion, InvalidText, NothingLeft, PooledError, UnknownGrant,
                               UnknownName)
from pooledeyes.office import Office, replayed
from pooledeyes.worlds import World
from tests.plainoffice import random_deed
from tests.reading import book_of
from tests.refusing import RefusingTest
from tests.test_office import BEGUN, begun

STEPS = [(("guard", "g"), ("grant", "g", "a", "b")), (("plan", "p"),), (("sketch", "s", "g", 2),),
         (("grant", "g", "b", "c"), ("say", "s", "alike", "a", 1, 2)), (("take", "g", 0),),
         (("world", "w", "cases 2\n"), ("tie", "w", "a", 1, 2)), (("share", "p", "swaps", "a", "b"), ("run", "p", "w"))]


def office_of(steps):
    """An office in which some steps are done."""
    office = Office()
    for step in steps:
        office.do(*step)
    return office


def random_office(source, calls=40):
    """An office with some history, and the list of the offices behind its steps."""
    office, row = Office(), [Office()]
    for _ in range(calls):
        deeds = [random_deed(source) for _ in range(source.choice([1, 1, 2]))]
        try:
            office.do(*deeds)
        except (PooledError, LookupError):
            continue
        row.append(office.twin())
    return office, row


class HistoryTest(RefusingTest):
    def test_nothing_left(self):
        office = Office()
        self.refused(NothingLeft, {}, office.undo)
        self.refused(NothingLeft, {}, office.redo)
        office.do(("plan", "p"))
        self.refused(NothingLeft, {}, office.redo)
        self.assertIsNone(office.undo())
        self.refused(NothingLeft, {}, office.undo)
        self.assertEqual([office.history(), len(office)], [(0, 1), 0])
        self.assertIsNone(office.redo())
        self.refused(NothingLeft, {}, office.redo)
        self.assertEqual([office.history(), len(office)], [(1, 0), 1])
        with self.assertRaises(IndexError):
            office.redo()
        self.assertEqual(NothingLeft.__bases__, (IndexError,))

    def test_step_by_step(self):
        office, rows = Office(), [Office()]
        for at, step in enumerate(STEPS, start=1):
            self.assertIsNone(office.do(*step))
            rows.append(office_of(STEPS[:at]))
            self.assertEqual([office.history(), office.journal()], [(at, 0), STEPS[:at]])
        for at in range(len(STEPS) - 1, -1, -1):
            office.undo()
            self.assertEqual(office, rows[at])
            self.assertEqual([office.history(), office.journal()], [(at, len(STEPS) - at), STEPS[:at]])
        for at in range(1, len(STEPS) + 1):
            office.redo()
            self.assertEqual(office, rows[at])
            self.assertEqual([office.history(), office.journal()], [(at, len(STEPS) - at), STEPS[:at]])
        self.assertEqual(office.history().__class__, tuple)

    def test_calls_without_deeds_and_refused_calls(self):
        office = office_of(STEPS)
        for _ in range(3):
            office.undo()
        twin, history, journal = office.twin(), (4, 3), STEPS[:4]
        for call, told in [((), None), ((("take", "g", 7),), (UnknownGrant, {"at": 7})),
                           ((("drop", "p"), ("drop", "g")), (InUse, {"name": "g"})),
                           ((None,), (InvalidDeed, {"at": 0})),
                           ((("drop", "p"), ("world", "x", "")), (InvalidText, {"at": 0}))]:
            if told is None:
                self.assertIsNone(office.do(*call))
            else:
                self.refused(*told, office.do, *call)
            self.assertEqual([office, office.history(), office.journal()], [twin, history, journal])
        office.redo()
        self.assertEqual([office, office.history()], [office_of(STEPS[:5]), (5, 2)])

    def test_a_new_step_ends_what_can_be_redone(self):
        office = office_of(STEPS)
        office.undo()
        office.undo()
        office.do(("drop", "s"), ("drop", "g"))
        self.assertEqual([office.history(), office.journal()], [(6, 0), STEPS[:5] + [(("drop", "s"), ("drop", "g"))]])
        self.refused(NothingLeft, {}, office.redo)
        office.undo()
        self.assertEqual([office, office.history()], [office_of(STEPS[:5]), (5, 1)])
        office.redo()
        self.assertEqual(office.ask("names"), ["p"])
        # A step that changes nothing is a step.
        office.do(("plan", "q"), ("drop", "q"))
        self.assertEqual(office.history(), (7, 0))

    def test_new_lists(self):
        office = office_of(STEPS)
        office.journal().clear()
        self.assertEqual(office.journal(), STEPS)
        self.assertEqual([step.__class__ for step in office.journal()], [tuple] * len(STEPS))

    def test_random_histories(self):
        source = random.Random(171)
        for _ in range(6):
            office, row = random_office(source)
            place = len(row) - 1
            for _ in range(60):
                if source.random() < 0.5:
                    if place == 0:
                        self.refused(NothingLeft, {}, office.undo)
                    else:
                        office.undo()
                        place -= 1
                elif place == len(row) - 1:
                    self.refused(NothingLeft, {}, office.redo)
                else:
                    office.redo()
                    place += 1
                self.assertEqual(office, row[place])
                self.assertEqual(office.history(), (place, len(row) - 1 - place))
                self.assertEqual(office.journal(), row[-1].journal()[:place])


class ReplayedTest(RefusingTest):
    def test_journals(self):
        source = random.Random(172)
        for _ in range(6):
            office, row = random_office(source)
            self.assertEqual(replayed(office.journal()), office)
            again = replayed(journal=office.journal())
            self.assertEqual([again.history(), again.journal()], [office.history(), office.journal()])
            for _ in range(min(3, len(row) - 1)):
                office.undo()
            self.assertEqual(replayed(office.journal()), office)
            self.assertEqual(replayed(tuple(office.journal())).history(), (len(office.journal()), 0))

    def test_chosen_journals(self):
        self.assertEqual(replayed([]), Office())
        self.assertEqual(replayed([()]).history(), (0, 0))
        self.assertEqual(replayed(STEPS).journal(), STEPS)
        self.refused(InvalidDeed, {"at": 1}, replayed, STEPS[:2] + [(("plan", "q"), ("plan",))])
        self.refused(InUse, {"name": "g"}, replayed, STEPS + [(("drop", "g"),)] + [(None,)])
        # Each step is one call: what is wrong in a later one counts only there.
        self.refused(UnknownName, {"name": "x"}, replayed, [(("drop", "x"),), (None,)])


class TriedTest(RefusingTest):
    def test_answers(self):
        office = begun()
        twin, history = office.twin(), office.history()
        for deeds, question, wanted in [
                ([("grant", "g", "a", "b")], ("tells", "g", "a", "b"), True), ([], ("names",), ["g", "p", "s", "w"]),
                ([("drop", "w"), ("drop", "p")], ("names",), ["g", "s"]), ([("guard", "h")], ("kind", "h"), "guard"),
                ([("tie", "w", "z", 1, 3)], ("text", "w"), "cases 3\na 1 1 3\nb 1 2 2\nz 1 2 1\n"),
                ([("say", "s", "unlike", "a", 1, 1)], ("stands", "s"), False),
                ([("grant", "g", "a", "b"), ("say", "s", "alike", "a", 1, 2)], ("outlook", "s", "b", 2, 1), "surely")]:
            self.assertEqual(office.tried(deeds, question), wanted)
            self.assertEqual(office.tried(question=question, deeds=tuple(deeds)), wanted)
            self.assertEqual([office, office.history(), office.busy], [twin, history, False])
        self.assertIs(office.ask("tells", "g", "a", "b"), False)

    def test_the_history_stays(self):
        office = office_of(STEPS)
        office.undo()
        office.undo()
        deeds = [("drop", "s"), ("drop", "g")]
        self.assertEqual(office.tried(deeds, ("names",)), ["p"])
        self.assertEqual(deeds, [("drop", "s"), ("drop", "g")])
        self.assertEqual([office.history(), office.journal()], [(5, 2), STEPS[:5]])
        self.assertEqual(office.ask("names"), ["g", "p", "s"])
        office.redo()
        self.assertEqual(office, office_of(STEPS[:6]))

    def test_refused(self):
        office = office_of(STEPS)
        office.undo()
        twin, history = office.twin(), office.history()
        for deeds, question, error, told in [
                ([("drop", "s"), None], None, InvalidDeed, {"at": 1}), ([("drop", "g")], None, InUse, {"name": "g"}),
                ([("drop", "s")], None, InvalidQuestion, {}),
                ([("drop", "s")], ("stands", "s"), UnknownName, {"name": "s"}),
                ([("drop", "s")], ["names"], InvalidQuestion, {}), ([], (), InvalidQuestion, {}),
                ([("take", "g", 5)], ("names", 1), UnknownGrant, {"at": 5})]:
            self.refused(error, told, office.tried, deeds, question)
            self.assertEqual([office, office.history(), office.busy], [twin, history, False])
            self.assertEqual(office.ask("names"), ["g", "p", "s", "w"])
        office.redo()
        self.assertEqual(office.history(), (7, 0))

    def test_tried_as_done(self):
        source = random.Random(173)
        compared = 0
        for _ in range(5):
            office, _ = random_office(source, 25)
            for _ in range(40):
                deeds = [random_deed(source) for _ in range(source.choice([0, 1, 2]))]
                question = source.choice([("names",), ("kind", "g"), ("lean", "g"), ("stands", "s"), ("text", "w"),
                                          ("image", "p", "a"), ("safe", "h"), ("carries", "q", "g")])
                other = office.twin()
                try:
                    other.do(*deeds)
                    wanted = other.ask(*question)
                except (PooledError, LookupError) as error:
                    self.refused(error.__class__, vars(error), office.tried, deeds, question)
                else:
                    self.assertEqual(office.tried(deeds, question), wanted)
                    compared += 1
        self.assertGreater(compared, 30)

    def test_busy_is_false_behind_each_call(self):
        office = begun()
        for call in [lambda: office.do(("drop", "x")), lambda: office.do(None), lambda: office.tried([None], None),
                     lambda: office.tried([], None), lambda: office.ask("x"), office.redo]:
            with self.assertRaises((PooledError, LookupError)):
                call()
            self.assertIs(office.busy, False)
        office.undo()
        self.assertIs(office.busy, False)
        with self.assertRaises(AttributeError):
            office.busy = True


class TwinTest(RefusingTest):
    def test_independent_twins(self):
        office = office_of(STEPS)
        office.undo()
        twin = office.twin()
        self.assertIsInstance(twin, Office)
        self.assertEqual([twin, twin.history(), twin.journal(), twin.busy], [office, (6, 1), STEPS[:6], False])
        twin.do(("tie", "w", "z", 1, 2))
        self.assertEqual([office.history(), office.world_of("w")], [(6, 1), World(2, [("a", 1, 2)])])
        self.assertNotEqual(twin, office)
        self.refused(NothingLeft, {}, twin.redo)
        office.redo()
        self.assertEqual([office.history(), twin.history()], [(7, 0), (7, 0)])
        office.undo()
        office.undo()
        self.assertEqual([twin.ask("names"), office.ask("names")], [["g", "p", "s", "w"], ["g", "p", "s"]])
        twin.undo()
        twin.redo()
        self.assertEqual(twin.world_of("w"), World(2, [("a", 1, 2), ("z", 1, 2)]))

    def test_twins_of_undone_offices(self):
        office = begun(("grant", "g", "a", "b"))
        office.undo()
        twin = office.twin()
        office.do(("grant", "g", "c", "d"))
        twin.redo()
        self.assertEqual([office.guard_of("g").book, twin.guard_of("g").book], [book_of("c > d"), book_of("a > b")])
        twin.undo()
        twin.undo()
        self.refused(NothingLeft, {}, twin.undo)
        self.assertEqual([len(twin), twin.history(), office.history()], [0, (0, 2), (2, 0)])
        self.assertEqual(twin.journal(), [])
        self.assertEqual(office.journal(), [tuple(BEGUN), (("grant", "g", "c", "d"),)])
