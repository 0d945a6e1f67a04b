"""What circles must tell under books, found without frames, and the derivations that show it.

A table has a line for each circle that may tell something and a bit for each
circle that may be told. Lines and bits have the texts of the circles as names.
Fact: t must tell s exactly if a rule of this list says so, again and again:
each and all of a descent, left and right of a descent, the same eye, or a grant
(p, x) where t must tell p and x must tell s.
"""

from pooledeyes.circles import eye
from pooledeyes.proofs import is_proof
from pooledeyes.puts import circles_in

RULES = ("each", "all", "same", "part", "whole", "grant", "through")


def table_tells(book, t, s):
    """Whether t must tell s under a book."""
    return Table(book, t, s).stage_of(str(t), str(s)) is not None


def derivation_of(book, t, s):
    """A derivation for a book and two circles, None if there is none."""
    table = Table(book, t, s)
    if table.stage_of(str(t), str(s)) is None:
        return None
    proof = Proof()
    for p, q, rule, heads in needed_ways(table, str(t), str(s)):
        proof.add_way(p, q, rule, heads)
    return proof.rows_to(str(t), str(s))


def is_derivation(book, t, s, value):
    """Whether any value is a derivation for a book and two circles."""
    given = {(str(circle), name): True for circle, name in book.grants()}
    return is_proof(value, RULES, given, t, s)


def by_size(circles):
    """A dict from the texts of circles to the circles, lesser ones first."""
    texts = {str(circle): circle for circle in circles}
    return {text: texts[text] for _, text in sorted([(texts[text].size, text) for text in texts])}


class Table:
    """What must tell what: a line for each circle in t and each shown eye, a bit for each in s and in the grants."""

    def __init__(self, book, t, s):
        self._grants = [(str(circle), name) for circle, name in book.grants()]
        self._lefts = by_size(circles_in(t) + [eye(name) for _, name in self._grants])
        self._rights = by_size(circles_in(s) + [inner for circle, _ in book.grants() for inner in circles_in(circle)])
        self._bits = {text: 1 << at for at, text in enumerate(self._rights)}
        self._masks = {text: in_some([self._bits[str(part)] for part in self._rights[text].parts()])
                       for text in self._rights}
        # Each stage uses grants once more than the one ahead, and all other rules as often as needed.
        nothing = {text: 0 for text in self._lefts}
        self._stages = [nothing, self._staged(nothing)]
        while self._stages[-1] != self._stages[-2]:
            self._stages.append(self._staged(self._stages[-1]))

    def _staged(self, ahead):
        """The stage behind a stage: a dict from the names of the lines to their bits."""
        found = {}
        for text, left in self._lefts.items():
            lines = [found[str(part)] for part in left.parts()]
            bits = in_some([ahead[name] for circle, name in self._grants if ahead[text] & self._bits[circle]])
            if left.kind == "eye":
                bits = bits | self._bits.get(text, 0)
            if left.kind == "common":
                bits = bits | in_all(lines)
            if left.kind == "pool":
                bits = bits | in_some(lines)
            found[text] = self._widened(bits)
        return found

    def _widened(self, bits):
        """Some bits with those of the pools and the commons that follow from them."""
        for text, right in self._rights.items():
            parts = bits & self._masks[text]
            if right.kind == "pool" and parts == self._masks[text]:
                bits = bits | self._bits[text]
            if right.kind == "common" and parts:
                bits = bits | self._bits[text]
        return bits

    def has(self, stage, pair):
        """Whether a pair of a line and a bit stands in the table at a stage."""
        return self._stages[stage][pair[0]] & self._bits[pair[1]] != 0

    def stage_of(self, p, q):
        """The first stage at which p tells q, None if it never does."""
        for stage in range(len(self._stages)):
            if self.has(stage, (p, q)):
                return stage
        return None

    def way_of(self, p, q):
        """The rule by which p tells q first, and the list of the pairs that it needs."""
        stage = self.stage_of(p, q)
        for rule, pairs in self._plain_ways(p, q):
            if all([self.has(stage, pair) for pair in pairs]):
                return rule, pairs
        # No other rule says so, so a grant does, by what stood at the stage ahead.
        standing = [(circle, name) for circle, name in self._grants
                    if self.has(stage - 1, (p, circle)) and self.has(stage - 1, (name, q))]
        circle, name = standing[0]
        return "grant", [(p, circle), (name, q)]

    def _plain_ways(self, p, q):
        """The list of the ways in which p may tell q without a grant: a rule, and the pairs that it needs."""
        left = self._lefts[p]
        right = self._rights[q]
        by_left = [(str(part), q) for part in left.parts()]
        by_right = [(p, str(part)) for part in right.parts()]
        ways = [("same", [])] if p == q else []
        if left.kind == "common":
            ways.append(("each", by_left))
        if right.kind == "pool":
            ways.append(("all", by_right))
        if left.kind == "pool":
            ways.extend([("left", [pair]) for pair in by_left])
        if right.kind == "common":
            ways.extend([("right", [pair]) for pair in by_right])
        return ways

    def rank_of(self, p, q):
        """A tuple that is greater than that of each pair that p and q need."""
        return self.stage_of(p, q), self._lefts[p].size + self._rights[q].size


def in_some(lines):
    """The bits that some of the lines have."""
    bits = 0
    for line in lines:
        bits = bits | line
    return bits


def in_all(lines):
    """The bits that all lines, one or more, have."""
    bits = lines[0]
    for line in lines:
        bits = bits & line
    return bits


def needed_ways(table, t, s):
    """The list of (p, q, rule, pairs) for t and s, and for all that they need, each behind what it needs."""
    ways = {}
    waiting = [(t, s)]
    while waiting:
        p, q = waiting.pop()
        if (p, q) not in ways:
            ways[p, q] = table.way_of(p, q)
            waiting.extend(ways[p, q][1])
    ranked = sorted([(table.rank_of(p, q), (p, q)) for p, q in ways])
    return [pair + ways[pair] for _, pair in ranked]


class Proof:
    """The rows of a derivation as they are made, and the index of the row of each pair."""

    def __init__(self):
        self.rows = []
        self.places = {}

    def place(self, p, q, rule, because):
        """The index of the row of p and q, which is put behind the others if there is none so far."""
        if (p, q) not in self.places:
            self.places[p, q] = len(self.rows)
            self.rows.append((p, q, rule, because))
        return self.places[p, q]

    def add_way(self, p, q, rule, pairs):
        """Put the rows for a way behind the others."""
        because = tuple([self.places[pair] for pair in pairs])
        if rule == "left":
            part = pairs[0][0]
            first = self.place(p, part, "part", ())
            self.place(p, q, "through", (first,) + because)
        elif rule == "right":
            part = pairs[0][1]
            second = self.place(part, q, "whole", ())
            self.place(p, q, "through", because + (second,))
        elif rule == "grant":
            circle = pairs[0][1]
            name = pairs[1][0]
            shown = self.place(circle, name, "grant", ())
            first = self.place(p, name, "through", (because[0], shown))
            self.place(p, q, "through", (first, because[1]))
        else:
            self.place(p, q, rule, because)

    def rows_to(self, p, q):
        """The list of the rows up to that of p and q."""
        return self.rows[:self.places[p, q] + 1]
