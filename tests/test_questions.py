"""Offices: questions, their answers and what is refused."""

import random

from pooledeyes.carrying import unkept_behind
from pooledeyes.circles import eye
from pooledeyes.circletexts import read_circle
from pooledeyes.errors import (CannotStand, InvalidCase, InvalidName, InvalidQuestion, InvalidText, Missing,
                               PooledError, TooMany, UnknownName)
from pooledeyes.musts import lean, must_tell
from pooledeyes.office import Office
from tests.anyvalues import any_values, but_names, but_numbers
from tests.making import names_to, with_ties
from tests.plainoffice import PlainOffice, random_deed
from tests.refusing import RefusingTest
from tests.test_office import begun
from tests.test_office_refused import DEEP, DEPTH, EYES, LARGE, TIES, WRONG_TEXTS

SIZES = {"names": 1, "kind": 2, "tells": 4, "safe": 2, "lean": 2, "keeps": 3, "alike": 5, "text": 2, "image": 3,
         "carries": 3, "stands": 2, "outlook": 5}
DEEDS = [("grant", "g", "a", "b"), ("grant", "g", "b", "c"), ("grant", "g", "a & d", "c"), ("ban", "g", "a", "d"),
         ("share", "p", "learns", "a", "b | c"), ("share", "p", "swaps", "c", "d"), ("tie", "w", "c", 1, 2),
         ("say", "s", "alike", "a", 1, 2), ("say", "s", "unlike", "c", 2, 3)]


def filled():
    """An office in which each thing has something to tell."""
    return begun(*DEEDS)


class AnswersTest(RefusingTest):
    def answers(self, office, pairs):
        """Questions have these answers."""
        for question, wanted in pairs:
            found = office.ask(*question)
            self.assertEqual(found, wanted, question)
            self.assertIs(found.__class__, wanted.__class__, question)

    def test_chosen_questions(self):
        self.answers(filled(), [
            (("names",), ["g", "p", "s", "w"]), (("kind", "w"), "world"), (("kind", "g"), "guard"),
            (("kind", "p"), "plan"), (("kind", "s"), "sketch"),
            (("tells", "g", "a", "c"), True), (("tells", "g", "c", "a"), False), (("tells", "g", "a | b", "(c)"), True),
            (("tells", "g", "d", "c"), False), (("safe", "g"), True), (("lean", "g"), "a > b\nb > c\n"),
            (("keeps", "w", "g"), False), (("alike", "w", "a | b", 1, 3), True), (("alike", "w", "a", 1, 3), False),
            (("alike", "w", "a & b", 2, 2), True), (("text", "w"), "cases 3\na 1 1 3\nb 1 2 2\nc 1 1 3\n"),
            (("image", "p", "a"), "a & (b | c)"), (("image", "p", "c"), "d"), (("image", "p", "zz"), "zz"),
            (("carries", "p", "g"), False), (("stands", "s"), True), (("outlook", "s", "a | b", 1, 2), "surely"),
            (("outlook", "s", "a", 1, 3), "never"), (("outlook", "s", "d", 1, 3), "open"),
            (("outlook", "s", "c", 2, 3), "never"), (("outlook", "s", "b", 2, 1), "surely")])

    def test_the_things_at_the_moment(self):
        office = filled()
        questions = [("safe", "g"), ("lean", "g"), ("keeps", "w", "g"), ("stands", "s"), ("carries", "p", "g"),
                     ("text", "w"), ("outlook", "s", "d", 1, 3), ("image", "p", "a"), ("names",)]
        first = [office.ask(*question) for question in questions]
        office.do(("grant", "g", "c", "d"), ("take", "g", 2), ("plan", "q"))
        self.answers(office, [(("safe", "g"), False), (("lean", "g"), "a > b\nb > c\nc > d\n"),
                              (("tells", "g", "b", "d"), True), (("outlook", "s", "d", 1, 2), "surely"),
                              (("outlook", "s", "d & c", 2, 3), "never"), (("names",), ["g", "p", "q", "s", "w"])])
        office.do(("tie", "w", "b", 1, 2), ("tie", "w", "c", 2, 3), ("tie", "w", "d", 1, 2), ("tie", "w", "d", 1, 3))
        self.answers(office, [(("keeps", "w", "g"), True)])
        behind = [office.ask(*question) for question in questions]
        self.assertNotEqual(behind, first)
        office.undo()
        office.undo()
        self.assertEqual([office.ask(*question) for question in questions], first)
        office.redo()
        office.redo()
        self.assertEqual([office.ask(*question) for question in questions], behind)

    def test_a_question_changes_nothing(self):
        office = filled()
        twin, history = office.twin(), office.history()
        office.ask("names").clear()
        for question in [("names",), ("safe", "g"), ("carries", "p", "g"), ("outlook", "s", "a", 1, 2)]:
            office.ask(*question)
        self.assertEqual([office, office.history(), office.ask("names")], [twin, history, ["g", "p", "s", "w"]])

    def test_against_the_things(self):
        source = random.Random(162)
        asked = set()
        for _ in range(8):
            office, plain = Office(), PlainOffice()
            for _ in range(100):
                deed, behind = random_deed(source), plain.copy()
                if plain.sketches and source.random() < 0.05:
                    deed = ("say", source.choice(list(plain.sketches)), "unlike", "a | b", 1, 1)
                try:
                    behind.done(deed)
                    plain = behind
                    office.do(deed)
                except (PooledError, LookupError):
                    continue
                t, s = source.choice(["a", "b & c", "a | b"]), source.choice(["b", "c", "a | d"])
                for name in plain.guards:
                    guard = plain.guard(name)
                    told = must_tell(guard.book, read_circle(t), read_circle(s))
                    self.answers(office, [(("kind", name), "guard"), (("safe", name), guard.is_safe()),
                                          (("lean", name), lean(guard.book).text()), (("tells", name, t, s), told)])
                    for plan in plain.plans:
                        try:
                            wanted = unkept_behind(plain.plan(plan), guard.book) is None
                        except TooMany as error:
                            self.refused(TooMany, vars(error), office.ask, "carries", plan, name)
                            continue
                        self.answers(office, [(("carries", plan, name), wanted)])
                    for world in plain.worlds:
                        kept = guard.book.kept_by(plain.worlds[world]["world"])
                        self.answers(office, [(("keeps", world, name), kept)])
                for name in plain.worlds:
                    world = plain.worlds[name]["world"]
                    self.answers(office, [(("kind", name), "world"), (("text", name), world.text()),
                                          (("alike", name, t, 1, 2), world.alike(read_circle(t), 1, 2))])
                for name in plain.plans:
                    for one in "abz":
                        self.answers(office, [(("image", name, one), str(plain.plan(name).image(one)))])
                for name in plain.sketches:
                    sketch = plain.sketch(name)
                    asked.add(sketch.stands())
                    self.answers(office, [(("kind", name), "sketch"), (("stands", name), sketch.stands())])
                    if sketch.stands():
                        self.answers(office, [(("outlook", name, s, 1, 2), sketch.outlook(read_circle(s), 1, 2))])
                    else:
                        self.refused(CannotStand, {"at": sketch.first_broken()}, office.ask, "outlook", name, s, 1, 2)
        self.assertEqual(asked, {True, False})


class QuestionsRefusedTest(RefusingTest):
    def wrong(self, office, error, told, *question):
        """A question is refused, asked and tried, and the office stays as it is."""
        twin, history = office.twin(), office.history()
        self.refused(error, told, office.ask, *question)
        self.refused(error, told, office.tried, [], question)
        again = [deed for deed in DEEDS if deed[0] == "say"]
        self.refused(error, told, office.tried, [("drop", "s"), ("sketch", "s", "g", 3), *again], question)
        self.assertEqual([office, office.history(), office.busy], [twin, history, False])

    def unknown(self, name, question_with):
        """A question with any value that is no name of a thing of its kind is refused."""
        office = filled()
        for value in any_values() + list("wgpsx"):
            if not (isinstance(value, str) and value == name):
                self.wrong(office, UnknownName, {"name": value}, *question_with(value))

    def wrong_texts(self, question_with):
        """A question with a wrong text is refused."""
        office = filled()
        for text, at in WRONG_TEXTS:
            self.wrong(office, InvalidText, {"at": at}, *question_with(text))
        for value in any_values():
            if not isinstance(value, str):
                self.wrong(office, InvalidText, {"at": -1}, *question_with(value))
        self.wrong(office, TooMany, EYES, *question_with(LARGE))
        self.wrong(office, TooMany, DEPTH, *question_with(DEEP))

    def test_no_questions(self):
        office = filled()
        self.refused(InvalidQuestion, {}, office.ask)
        for value in any_values() + [(), ("Names",), ("name",), (("names",),), ("drop", "w"), ("world", "x", ""),
                                     (None,)]:
            if isinstance(value, tuple):
                self.refused(InvalidQuestion, {}, office.ask, *value)
            self.refused(InvalidQuestion, {}, office.tried, [], value)
            self.refused(InvalidQuestion, {}, office.tried, [("plan", "q")], value)
            for items in range(7):
                self.refused(InvalidQuestion, {}, office.ask, value, *["g"] * items)
        self.refused(InvalidQuestion, {}, office.tried, [], ["names"])
        self.refused(InvalidQuestion, {}, office.tried, [], "names")

    def test_other_numbers_of_items(self):
        office = filled()
        for word, size in SIZES.items():
            for items in range(1, 8):
                question = (word,) + ("x",) * (items - 1)
                if items != size:
                    self.wrong(office, InvalidQuestion, {}, *question)
                elif word != "names":
                    with self.assertRaises(Missing):
                        office.ask(*question)
        self.assertEqual(office.ask("names"), ["g", "p", "s", "w"])

    def test_unknown_names(self):
        for name, question_with in [
                ("g", lambda value: ("tells", value, "a &", 7)), ("g", lambda value: ("safe", value)),
                ("g", lambda value: ("lean", value)), ("w", lambda value: ("keeps", value, "x")),
                ("g", lambda value: ("keeps", "w", value)), ("w", lambda value: ("alike", value, "a &", 0, 0)),
                ("w", lambda value: ("text", value)), ("p", lambda value: ("image", value, "A")),
                ("p", lambda value: ("carries", value, "x")), ("g", lambda value: ("carries", "p", value)),
                ("s", lambda value: ("stands", value)), ("s", lambda value: ("outlook", value, "a &", 0, 0))]:
            self.unknown(name, question_with)
        office = filled()
        for value in any_values() + ["x", "W", ["w"]]:
            if value not in ["w", "g", "p", "s"]:
                self.wrong(office, UnknownName, {"name": value}, "kind", value)

    def test_wrong_texts(self):
        for question_with in [lambda text: ("tells", "g", text, "a &"), lambda text: ("tells", "g", "a", text),
                              lambda text: ("tells", "g", str(with_ties(257)), text),
                              lambda text: ("alike", "w", text, 0, 0), lambda text: ("outlook", "s", text, 0, 0)]:
            self.wrong_texts(question_with)

    def test_wrong_names_and_cases(self):
        office = filled()
        for value in but_names():
            self.wrong(office, InvalidName, {"value": value}, "image", "p", value)
        falls = filled()
        falls.do(("say", "s", "unlike", "b", 1, 2))
        for value in but_numbers(1, 3):
            for word, name in [("alike", "w"), ("outlook", "s")]:
                self.wrong(office, InvalidCase, {"value": value}, word, name, "a", value, 9)
                self.wrong(office, InvalidCase, {"value": value}, word, name, "a", 3, value)
            self.refused(InvalidCase, {"value": value}, falls.ask, "outlook", "s", "a", value, 9)
            self.refused(InvalidCase, {"value": value}, falls.ask, "outlook", "s", str(with_ties(257)), 3, value)
        self.refused(CannotStand, {"at": 2}, falls.ask, "outlook", "s", str(with_ties(257)), 1, 2)

    def test_too_many_in_an_answer(self):
        office, great = filled(), str(with_ties(257) & eye("zz"))
        self.wrong(office, TooMany, TIES, "tells", "g", great, "a")
        self.wrong(office, TooMany, TIES, "outlook", "s", great, 1, 2)
        self.assertEqual(office.ask("outlook", "s", great, 2, 2), "surely")
        self.assertIs(office.ask("tells", "g", "a", great), False)
        office.do(("grant", "g", great, "a"), ("plan", "q"))
        self.refused(TooMany, TIES, office.ask, "lean", "g")
        self.refused(TooMany, TIES, office.ask, "carries", "q", "g")
        self.assertIs(office.ask("safe", "g"), True)
        self.refused(UnknownName, {"name": "x"}, office.ask, "carries", "q", "x")
        office.do(("share", "q", "becomes", "a", " & ".join("x" + name for name in names_to(40))), ("guard", "h"),
                  ("grant", "h", "a & (a | zz)", "b"))
        self.refused(TooMany, EYES, office.ask, "carries", "q", "h")
        self.assertEqual(office.ask("image", "q", "a"), str(office.plan_of("q").image("a")))
        self.assertEqual(office.guard_of("h").book.grants()[0][1], eye("b").name)
