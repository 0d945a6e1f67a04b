"""A second, plain way to lay circles, to tell what is always told, and to stretch worlds."""

import itertools

from tests.plainworlds import closed, plain_relation


def plain_laid(circle, first, second, numbers, rounds=2, less=0):
    """The ties of a circle that is laid; numbers is an iterator of the free numbers."""
    if circle.kind == "eye":
        return [(circle.name, first, second)]
    parts = circle.parts()
    if circle.kind == "pool":
        return [tie for part in parts for tie in plain_laid(part, first, second, numbers, rounds, less)]
    steps = rounds * len(parts) - less
    path = [first] + [next(numbers) for _ in range(steps - 1)] + [second]
    ties = []
    for step in range(steps):
        ties += plain_laid(parts[step % len(parts)], path[step], path[step + 1], numbers, rounds, less)
    return ties


def plain_frame(circle, rounds=2, less=0):
    """The ties of the frame of a circle."""
    return plain_laid(circle, 1, 2, itertools.count(3), rounds, less)


def plain_tells(t, s):
    """Whether one plain circle always tells another one, by the first rule that applies."""
    if not isinstance(t, str) and t[0] == "|":
        return all(plain_tells(part, s) for part in t[1])
    if not isinstance(s, str) and s[0] == "&":
        return all(plain_tells(t, part) for part in s[1])
    if isinstance(t, str) and isinstance(s, str):
        return t == s
    left = not isinstance(t, str) and any(plain_tells(part, s) for part in t[1])
    return left or (not isinstance(s, str) and any(plain_tells(t, part) for part in s[1]))


class PlainStretch:
    """A stretch whose distances are sets of pairs of cases, for all pairs of spots."""

    def __init__(self, many, ties, names):
        self.many = many
        self.ties = ties
        self.names = names
        self.spots = many
        self.far = {(x, y): closed(many, [(x, y)]) for x in range(1, many + 1) for y in range(1, many + 1)}

    def joined(self, *relations):
        """The join of some relations."""
        return closed(self.many, set().union(*relations))

    def set_far(self, x, y, relation):
        """Set the distance between two spots, both ways."""
        self.far[x, y] = self.far[y, x] = relation

    def lay(self, circle, x, y):
        """Lay a circle between two spots, by the words of the document."""
        if circle.kind == "pool":
            for part in circle.parts():
                self.lay(part, x, y)
        if circle.kind != "common":
            return
        parts, k = circle.parts(), len(circle.parts())
        labels = [plain_relation(self.many, self.ties, part) for part in parts] * 2
        before = range(1, self.spots + 1)
        path = [x] + [self.spots + i for i in range(1, 2 * k)] + [y]
        self.spots += 2 * k - 1
        across = self.far[x, y]
        label = {(i, j): self.joined(*labels[i:j]) for i in range(2 * k + 1) for j in range(i, 2 * k + 1)}
        changed = []
        for i in range(2 * k + 1):
            for w in before:
                if 0 < i < 2 * k:
                    near = [self.far[w, x], label[0, i]] if i <= k else [self.far[w, y], label[i, 2 * k]]
                    changed.append((w, path[i], self.joined(*near)))
            for j in range(i + 1, 2 * k + 1):
                near = [label[i, j]] if j - i < k else [label[0, i], across, label[j, 2 * k]]
                changed.append((path[i], path[j], self.joined(*near)))
        for spot in path[1:-1]:
            self.set_far(spot, spot, closed(self.many, []))
        for one, other, relation in changed:
            if one == other:
                # The ends of the path are one spot: from it to itself all cases stay apart.
                assert relation == closed(self.many, [])
            self.set_far(one, other, relation)
        for step in range(2 * k):
            self.lay(parts[step % k], path[step], path[step + 1])

    def relation(self, name):
        """The relation of an eye between the spots."""
        seen = closed(self.many, [(u, v) for eye, u, v in self.ties if eye == name])
        return {pair for pair, relation in self.far.items() if relation <= seen}
