"""Chains, which show that cases are alike to a circle, and walls, which show that they are not."""

from pooledeyes.partings import lots_of, spread
from pooledeyes.words import is_number
from pooledeyes.worlds import check_cases


def links_of(circle):
    """The list of the links of a circle: the parts of a common, and of another circle itself."""
    if circle.kind == "common":
        return circle.parts()
    return [circle]


def link_partings(world, circle):
    """The list of the partings of the links of a circle."""
    return [world.parting(link) for link in links_of(circle)]


def chain_between(world, circle, one, other):
    """The least chain between two cases, None if they are not alike to the circle."""
    check_cases(world.many, (one, other))
    partings = link_partings(world, circle)
    rest = steps_to(partings, other)
    if one not in rest:
        return None
    lots = keyed_lots(partings)
    chain = []
    case = one
    while case != other:
        step = least_step(partings, lots, rest, case)
        chain.append(step)
        case = step[1]
    return tuple(chain)


def keyed_lots(partings):
    """A dict from (index of a parting, least case of one of its lots) to this lot, for all lots."""
    return {(at, lot[0]): lot for at, parting in enumerate(partings) for lot in lots_of(parting)}


def steps_to(partings, goal):
    """A dict from the cases from which a chain leads to a case to the fewest steps of one."""
    lots = keyed_lots(partings)
    steps = {goal: 0}
    row = [goal]
    while row:
        keys = [(at, parting[case - 1]) for case in row for at, parting in enumerate(partings)]
        many = steps[row[0]] + 1
        row = []
        for key in keys:
            # A lot is taken away when it is first come to: it leads to nothing new afterwards.
            for case in lots.pop(key, ()):
                if case not in steps:
                    steps[case] = many
                    row.append(case)
    return steps


def least_step(partings, lots, rest, case):
    """The step from a case to the least one with fewer steps left, with the least index of a link."""
    nearer = [(near, at) for at, parting in enumerate(partings) for near in lots[at, parting[case - 1]]
              if rest[near] < rest[case]]
    least, link = min(nearer)
    return case, least, link


def is_chain(world, circle, one, other, value):
    """Whether any value is a chain for a circle from one case to another one."""
    check_cases(world.many, (one, other))
    if not isinstance(value, tuple):
        return False
    partings = link_partings(world, circle)
    case = one
    for step in value:
        if not is_step(partings, step) or step[0] != case:
            return False
        case = step[1]
    return case == other


def is_step(partings, value):
    """Whether any value is a step by links with these partings."""
    if not isinstance(value, tuple) or len(value) != 3:
        return False
    one, other, at = value
    many = len(partings[0])
    if not is_number(one, 1, many) or not is_number(other, 1, many) or not is_number(at, 0, len(partings) - 1):
        return False
    return partings[at][one - 1] == partings[at][other - 1]


def lot_around(world, circle, case):
    """The ascending tuple of the cases alike to a case."""
    check_cases(world.many, (case,))
    return spread(world.parting(circle), (case,))


def wall_stands(world, circle, value):
    """Whether any value is a wall for a circle."""
    if not isinstance(value, tuple) or len(value) == 0:
        return False
    if not all([is_number(case, 1, world.many) for case in value]):
        return False
    return spread(world.parting(circle), value) == value


def wall_between(world, circle, one, other):
    """The lot around the first case if the other one is not in it, otherwise None."""
    check_cases(world.many, (one, other))
    lot = lot_around(world, circle, one)
    if other in lot:
        return None
    return lot


def depth_of(world, circle):
    """The greatest number of steps of a least chain between two cases alike to a circle."""
    lots = linking_lots(link_partings(world, circle))
    # For each case the cases that it reaches, as the bits of one number: so all cases take a step at once.
    reach = [1 << case for case in range(world.many + 1)]
    wider = stepped(lots, reach)
    depth = 0
    while wider != reach:
        depth += 1
        reach = wider
        wider = stepped(lots, reach)
    return depth


def linking_lots(partings):
    """The list of the lots of some partings that have two cases or more, each lot once."""
    lots = {lot: True for parting in partings for lot in lots_of(parting) if len(lot) > 1}
    return list(lots)


def stepped(lots, reach):
    """What each case reaches by one step, in one of some lots, and what is reached from there."""
    wider = list(reach)
    for lot in lots:
        bits = 0
        for case in lot:
            bits = bits | reach[case]
        for case in lot:
            wider[case] = wider[case] | bits
    return wider
