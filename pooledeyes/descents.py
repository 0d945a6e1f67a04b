"""What circles always tell, in all worlds, and the descents that show it."""

from pooledeyes.proofs import is_proof

RULES = ("eye", "each", "all", "left", "right")


def tells(t, s):
    """Whether t always tells s."""
    return told(t, s, {})


def always_alike(t, s):
    """Whether each of two circles always tells the other one."""
    return tells(t, s) and tells(s, t)


def descent_of(t, s):
    """A descent from t to s, None if there is none."""
    known = {}
    if not told(t, s, known):
        return None
    rows = []
    place_row(t, s, known, rows, {})
    return rows


def is_descent(t, s, value):
    """Whether any value is a descent from t to s."""
    return is_proof(value, RULES, {}, t, s)


def ways(t, s):
    """The list of the ways in which t may always tell s: a rule, and the pairs that must do so, too."""
    if t.kind == "common":
        return [("each", [(part, s) for part in t.parts()])]
    if s.kind == "pool":
        return [("all", [(t, part) for part in s.parts()])]
    if t.kind == "eye" and s.kind == "eye":
        return [("eye", [])] if t == s else []
    found = []
    if t.kind == "pool":
        found.extend([("left", [(part, s)]) for part in t.parts()])
    if s.kind == "common":
        found.extend([("right", [(t, part)]) for part in s.parts()])
    return found


def holds(pairs, known):
    """Whether the first circle of each pair always tells the second one."""
    return all([told(p, q, known) for p, q in pairs])


def told(t, s, known):
    """Whether t always tells s; known is a dict that keeps the answer for each pair of texts that is asked."""
    key = (str(t), str(s))
    if key not in known:
        known[key] = any([holds(pairs, known) for _, pairs in ways(t, s)])
    return known[key]


def place_row(t, s, known, rows, places):
    """The index of the row of t and s, which is put behind the rows, with all that it needs, if it is not there."""
    key = (str(t), str(s))
    if key not in places:
        rule, pairs = first_way(t, s, known)
        because = tuple([place_row(p, q, known, rows, places) for p, q in pairs])
        places[key] = len(rows)
        rows.append((str(t), str(s), rule, because))
    return places[key]


def first_way(t, s, known):
    """The first way in which t always tells s, which it does."""
    standing = [(rule, pairs) for rule, pairs in ways(t, s) if holds(pairs, known)]
    return standing[0]
