"""Rows that prove, step by step, that one circle tells another one.

A row is a tuple (p, q, rule, because) with the texts of two circles, the name of
a rule, and the indexes of earlier rows. Descents and derivations are such rows,
with rules of their own.

The functions of the rules are passed the circles p and q, the list of the pairs
(p, q) of the rows that because names, and a dict whose keys are the pairs (p, q)
that need no proof.
"""

from pooledeyes.circletexts import is_circle_text, read_circle
from pooledeyes.words import is_number


def eye_stands(p, q, heads, given):
    """Whether p and q are the same eye."""
    return heads == [] and p.kind == "eye" and p == q


def each_stands(p, q, heads, given):
    """Whether p is a common, and there is a row for each part of it, in order."""
    return p.kind == "common" and heads == left_heads(p, q)


def all_stands(p, q, heads, given):
    """Whether q is a pool, and there is a row for each part of it, in order."""
    return q.kind == "pool" and heads == right_heads(p, q)


def left_stands(p, q, heads, given):
    """Whether p is a pool, and there is a row for one part of it."""
    return p.kind == "pool" and len(heads) == 1 and heads[0] in left_heads(p, q)


def right_stands(p, q, heads, given):
    """Whether q is a common, and there is a row for one part of it."""
    return q.kind == "common" and len(heads) == 1 and heads[0] in right_heads(p, q)


def same_stands(p, q, heads, given):
    """Whether p and q are equal."""
    return heads == [] and p == q


def part_stands(p, q, heads, given):
    """Whether p is a pool and q one of its parts."""
    return heads == [] and p.kind == "pool" and q in p.parts()


def whole_stands(p, q, heads, given):
    """Whether q is a common and p one of its parts."""
    return heads == [] and q.kind == "common" and p in q.parts()


def grant_stands(p, q, heads, given):
    """Whether p and q are given."""
    return heads == [] and (str(p), str(q)) in given


def through_stands(p, q, heads, given):
    """Whether there are a row from p to some circle and a row from there to q."""
    if len(heads) != 2:
        return False
    first, second = heads
    return first[0] == str(p) and first[1] == second[0] and second[1] == str(q)


RULES = {
    "eye": eye_stands, "each": each_stands, "all": all_stands, "left": left_stands, "right": right_stands,
    "same": same_stands, "part": part_stands, "whole": whole_stands, "grant": grant_stands, "through": through_stands,
}


def left_heads(p, q):
    """The list of the pairs of texts of each part of p and of q."""
    return [(str(part), str(q)) for part in p.parts()]


def right_heads(p, q):
    """The list of the pairs of texts of p and of each part of q."""
    return [(str(p), str(part)) for part in q.parts()]


def is_proof(value, names, given, t, s):
    """Whether any value is a row of one row or more, by the rules with these names, that ends with t and s."""
    if not isinstance(value, (list, tuple)) or len(value) == 0:
        return False
    circles = {}
    for at, row in enumerate(value):
        if not is_row(row, at, names):
            return False
        p, q, rule, because = row
        for text in (p, q):
            if text not in circles:
                if not is_circle_text(text):
                    return False
                circles[text] = read_circle(text)
        stands = RULES[rule]
        if not stands(circles[p], circles[q], [value[index][:2] for index in because], given):
            return False
    return value[-1][:2] == (str(t), str(s))


def is_row(value, at, names):
    """Whether any value has the form of a row with an index: two strings, a rule's name, earlier indexes."""
    if not isinstance(value, tuple) or len(value) != 4:
        return False
    p, q, rule, because = value
    if not isinstance(p, str) or not isinstance(q, str) or rule not in names:
        return False
    return isinstance(because, tuple) and all([is_number(index, 0, at - 1) for index in because])
