"""Partings: which cases are alike, for each case by the least case that is alike to it."""

from pooledeyes.errors import InvalidNumber, InvalidParting, InvalidTie
from pooledeyes.words import is_number

MOST_CASES = 2400
MOST_LISTED = 6


def is_parting(value):
    """Whether any value is a parting."""
    if not isinstance(value, tuple) or len(value) == 0:
        return False
    return all([is_item(value, at) for at in range(len(value))])


def is_item(row, at):
    """Whether the item with an index of a tuple can stand there in a parting."""
    return is_number(row[at], 1, at + 1) and row[row[at] - 1] == row[at]


def apart(many):
    """The parting of so many cases that tells all cases apart."""
    return tuple(range(1, many + 1))


def together(many):
    """The parting of so many cases that takes all cases for alike."""
    return (1,) * many


def parting_of(many, pairs):
    """The parting that takes the two cases of each pair for alike, and no more than follows."""
    if not is_number(many, 1, MOST_CASES):
        raise InvalidNumber(many)
    if not isinstance(pairs, (list, tuple)):
        raise InvalidTie(-1)
    for at, pair in enumerate(pairs):
        if not is_pair(pair, many):
            raise InvalidTie(at)
    return linked(many, pairs)


def is_pair(value, many):
    """Whether any value is a pair of cases out of so many."""
    if not isinstance(value, tuple) or len(value) != 2:
        return False
    return is_number(value[0], 1, many) and is_number(value[1], 1, many)


def lots_of(parting):
    """The list of the lots of a parting, by their least cases."""
    lots = {}
    for case, item in enumerate(parting, start=1):
        lots.setdefault(item, []).append(case)
    return [tuple(lot) for lot in lots.values()]


def meet_of(first, second):
    """The parting that takes for alike what both partings take for alike."""
    check_partings(first, second)
    return met([first, second])


def join_of(first, second):
    """The parting that has both partings within it and is within each other one that has."""
    check_partings(first, second)
    return joined([first, second])


def is_within(first, second):
    """Whether all cases that are alike in the first parting are alike in the second one."""
    check_partings(first, second)
    return within(first, second)


def check_partings(first, second):
    """Refuse two values that are no partings of one length."""
    for value in (first, second):
        if not is_parting(value):
            raise InvalidParting(value)
    if len(first) != len(second):
        raise InvalidParting(second)


def all_partings(many):
    """All partings of so many cases, in ascending order."""
    if not is_number(many, 1, MOST_LISTED):
        raise InvalidNumber(many)
    rows = [()]
    for case in range(1, many + 1):
        rows = [row + (item,) for row in rows for item in sorted(set(row + (case,)))]
    yield from rows


# What is below takes right partings and cases alone, and so does not look at them again.


def linked(many, pairs):
    """The parting that takes the two cases of each right pair for alike, and no more than follows."""
    # Each case leads to a lesser one that is alike, and the least one to itself.
    lead = list(range(many + 1))
    for pair in pairs:
        ends = []
        for end in pair:
            while lead[end] != end:
                # Roads are halved on the way, so that many pairs in a row do not make long ones.
                lead[end] = lead[lead[end]]
                end = lead[end]
            ends.append(end)
        lead[max(ends)] = min(ends)
    for case in range(1, many + 1):
        lead[case] = lead[lead[case]]
    return tuple(lead[1:])


def by_keys(keys):
    """The parting that takes cases for alike if their keys, one for each case in order, are equal."""
    firsts = {}
    found = []
    for case, key in enumerate(keys, start=1):
        found.append(firsts.setdefault(key, case))
    return tuple(found)


def met(partings):
    """The meet of a list of one parting or more."""
    return by_keys(list(zip(*partings)))


def joined(partings):
    """The join of a list of one parting or more."""
    pairs = [(case, item) for parting in partings for case, item in enumerate(parting, start=1) if item < case]
    return linked(len(partings[0]), pairs)


def within(first, second):
    """Whether the first of two right partings is within the second one."""
    return all([second[at] == second[item - 1] for at, item in enumerate(first)])


def split_pair(first, second):
    """The pair of the first case that parts the first right parting from the second one, None if it is within it.

    The two cases are alike in the first parting and not in the second one.
    """
    for case, item in enumerate(first, start=1):
        if second[case - 1] != second[item - 1]:
            return item, case
    return None


def spread(parting, cases):
    """The ascending tuple of the cases that are alike to one of some cases."""
    items = set([parting[case - 1] for case in cases])
    return tuple([case for case, item in enumerate(parting, start=1) if item in items])


def narrowed(parting, cases):
    """The parting of an ascending list of cases, numbered anew, that takes for alike what the parting does."""
    return by_keys([parting[case - 1] for case in cases])


def beside(first, second):
    """The parting of the cases of one parting and, behind them, of those of another one."""
    return first + tuple([item + len(first) for item in second])
