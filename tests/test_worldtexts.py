"""Texts of worlds: written, read back, and refused with the first line that cannot stand."""

import random

from pooledeyes.errors import InvalidText
from pooledeyes.partings import all_partings, apart, together
from pooledeyes.worlds import World
from tests.anyvalues import without_strings
from tests.making import names_to
from tests.plainworlds import random_worlds
from tests.refusing import RefusingTest


def wrong_line(text):
    """The index of the first line of a text that cannot stand, None if there is none, by the words of the document."""
    lines = text.split("\n")
    if len(lines) == 1 or not is_first(lines[0]):
        return 0
    many = int(lines[0][6:])
    rows = {" ".join(str(item) for item in row): row for row in all_partings(many)} if many < 5 else {}
    ahead = ""
    for at, line in enumerate(lines[1:-1], 1):
        name, _, rest = line.partition(" ")
        letters = all(letter in "abcdefghijklmnopqrstuvwxyz" for letter in name)
        if not 1 <= len(name) <= 6 or not letters or name <= ahead or rest not in rows or rows[rest] == apart(many):
            return at
        ahead = name
    return None if lines[-1] == "" else len(lines) - 1


def is_first(line):
    """Whether a line is a first line of a text."""
    return line in [f"cases {many}" for many in range(1, 2401)]


class WorldTextsTest(RefusingTest):
    def test_texts(self):
        for world, text in [
            (World(1), "cases 1\n"),
            (World(2400), "cases 2400\n"),
            (World(3, [("b", 3, 2), ("abcdef", 1, 3)]), "cases 3\nabcdef 1 2 1\nb 1 2 2\n"),
            (World(11, [("a", 10, 11)]), "cases 11\na 1 2 3 4 5 6 7 8 9 10 10\n"),
        ]:
            self.assertEqual([world.text(), str(world)], [text, text])
            for read in [World.read(text), World.read(text=text), world.read(text)]:
                self.assertTrue(read == world)
                self.assertEqual([read.text(), read.many, read.partings()], [text, world.many, world.partings()])

    def test_random_worlds_are_read_back(self):
        for world, ties in random_worlds(31, 200, 14):
            self.assertTrue(World.read(world.text()) == world)
            self.assertTrue(World.read(str(world)) == world)

    def test_great_worlds_are_read_back(self):
        partings = {name: together(1200) + (1201,) * 1200 for name in names_to(60)}
        world = World.parted(2400, partings)
        self.assertTrue(World.read(world.text()) == world)

    def test_values_that_are_no_strings(self):
        for value in without_strings():
            self.refused(InvalidText, {"at": -1}, World.read, value)
        self.refused(InvalidText, {"at": -1}, World.read, text=None)

    def test_wrong_first_lines(self):
        for line in ["", " ", "cases", "cases ", "cases 0", "cases 01", "cases +1", "cases -1", "cases 2401",
                     " cases 1", "cases  1", "cases 1 ", "Cases 1", "case 1", "cases 1 2", "cases 1.", "cases one", "1",
                     "cases\t1",
                     "cases 10000", "cases " + "1" * 11000, "cases 1_0", "cases 1e1", "a 1 1", "cases3"]:
            for behind in ["\n", "", "\na 1 1", "\na 1 1\n", "\n\n"]:
                self.refused(InvalidText, {"at": 0}, World.read, line + behind)

    def test_the_empty_string_and_no_line_feed(self):
        for text in ["", "cases 3", "\n", "\n\n", "cases 3 ", "c"]:
            self.refused(InvalidText, {"at": 0}, World.read, text)
        self.refused(InvalidText, {"at": 1}, World.read, "cases 3\na 1 1 3")
        self.refused(InvalidText, {"at": 1}, World.read, "cases 3\n ")
        self.refused(InvalidText, {"at": 2}, World.read, "cases 3\na 1 1 3\nb 1 1 1")
        self.refused(InvalidText, {"at": 2}, World.read, "cases 3\na 1 1 3\nb")

    def test_wrong_later_lines(self):
        wrong = ["", " ", "b", "b ", "b 1", "b 1 1", "b 1 1 1 1", "b 1 1 1 ", " b 1 1 1", "b  1 1 1", "b 1  1 1",
                 "b 1 2 3", "b 1 1 2", "b 1 1 4", "b 0 1 1", "b 2 2 2", "b 1 1 01", "b 1 1 +1", "b 1 -1 1", "b 1 1 x",
                 "b 1 3 3", "B 1 1 1", "abcdefg 1 1 1", "1 1 1", "1 1 1 1", "b1 1 1 1", "a 1 1 1", "aa", "b,1,1,1",
                 "cases 3", "b 1 1 " + "1" * 9000, "b\t1 1 1", "b 1 1 1\r", " 1 1 1"]
        for line in wrong:
            ahead = "cases 3\na 1 1 3\n"
            for behind in ["\n", "", "\nc 1 1 1\n", "\nA", "\n\n"]:
                if line + behind:
                    self.refused(InvalidText, {"at": 2}, World.read, ahead + line + behind)

    def test_names_above_those_ahead(self):
        for names, at in [(["a", "a"], 2), (["b", "a"], 2), (["a", "ab", "aa"], 3), (["ab", "a"], 2),
                          (["a", "c", "b", "d"], 3), (["a", "b", "c", "c"], 4)]:
            text = "cases 2\n" + "".join(f"{name} 1 1\n" for name in names)
            self.refused(InvalidText, {"at": at}, World.read, text)
        text = "cases 2\n" + "".join(f"{name} 1 1\n" for name in ["a", "aa", "ab", "b", "ba", "zzzzzz"])
        self.assertEqual(World.read(text).text(), text)

    def test_one_case_has_no_later_lines(self):
        self.refused(InvalidText, {"at": 1}, World.read, "cases 1\na 1\n")
        self.refused(InvalidText, {"at": 1}, World.read, "cases 1\n\n")

    def test_random_texts_with_one_change(self):
        source = random.Random(32)
        texts = [world.text() for world, ties in random_worlds(33, 40, 4)]
        for _ in range(3000):
            text = source.choice(texts)
            at = source.randint(0, len(text))
            text = text[:at] + source.choice(["", " ", "\n", "a", "b", "z", "1", "2", "4", "0", "-"]) + text[
                at + source.randint(0, 2):]
            wanted = wrong_line(text)
            if wanted is None:
                self.assertEqual(World.read(text).text(), text)
            else:
                self.refused(InvalidText, {"at": wanted}, World.read, text)
