"""Trees that tell standings apart: (number, state), a device out of several, and a state of it.

What is held is a list of (leaf, standing): the standing that something is at now, and the leaf that tells what it was.
"""

from toldboxes.words import is_among, is_same, is_whole


def answered(devices, held, call):
    """For each answer that is heard to the call, in the sequence of the answers, (answer, what is held then)."""
    found = []
    for answer in devices[0].answers:
        led = []
        for leaf, (number, state) in held:
            reply, goal = devices[number].row(state, call)
            if reply == answer:
                led.append((leaf, (number, goal)))
        if led:
            found.append((answer, led))
    return found


def standings_of(held):
    """The ascending tuple of the standings that are held."""
    return tuple(sorted({standing for _, standing in held}))


def bare(standings):
    """What is held where nobody asks what it was at first."""
    return [(None, standing) for standing in standings]


def lots_led(devices, lot, call):
    """The list of the lots to which a call leads; None if it brings two standings together."""
    found = []
    for _, led in answered(devices, bare(lot), call):
        goals = standings_of(led)
        if len(goals) < len(led):
            return None
        found.append(goals)
    return found


def lots_come(devices, first):
    """The list of the lots of two or more standings to which calls lead from this one that bring none together."""
    found = [first]
    at = 0
    while at < len(found):
        for call in devices[0].calls:
            for lot in lots_led(devices, found[at], call) or []:
                if len(lot) > 1 and lot not in found:
                    found.append(lot)
        at += 1
    return found


def depths(devices, held):
    """A dict with the least depth of a tree for each lot that is come to for which there is one."""
    waiting = lots_come(devices, standings_of(held))
    numbers = {lot: 0 for lot in waiting if len(lot) == 1}
    found = waiting
    deep = 0
    # Each round finds those that are told by one call more than those of the round ahead.
    while found:
        deep += 1
        waiting = [lot for lot in waiting if lot not in numbers]
        found = [lot for lot in waiting if best_call(devices, numbers, lot) is not None]
        for lot in found:
            numbers[lot] = deep
    return numbers


def best_call(devices, numbers, lot):
    """The first of those calls that lead to lots with the least depths; None if each leads to one without a tree."""
    found = []
    for call in devices[0].calls:
        lots = lots_led(devices, lot, call)
        if lots is not None and all([len(goals) == 1 or goals in numbers for goals in lots]):
            found.append((max([numbers.get(goals, 0) for goals in lots]), len(found), call))
    return min(found)[2] if found else None


def tree_for(devices, numbers, held):
    """A tree for what is held, as little deep as can be."""
    if len(held) == 1:
        return held[0][0]
    call = best_call(devices, numbers, standings_of(held))
    return call, tuple([(answer, tree_for(devices, numbers, led)) for answer, led in answered(devices, held, call)])


def is_tree(devices, held, value, deep):
    """Whether any value is a tree that is right for what is held, and at most so deep."""
    if len(held) == 1:
        return is_same(value, held[0][0])
    if deep == 0 or not isinstance(value, tuple) or len(value) != 2 or not is_among(value[0], devices[0].calls):
        return False
    call, branches = value
    parts = answered(devices, held, call)
    if not isinstance(branches, tuple) or len(branches) != len(parts):
        return False
    # Standings that a call brings together stay so: no tree comes to a leaf behind it.
    for (answer, led), branch in zip(parts, branches):
        if not isinstance(branch, tuple) or len(branch) != 2 or not is_same(branch[0], answer):
            return False
        if not is_tree(devices, led, branch[1], deep - 1):
            return False
    return True


def lots_never(devices, numbers, held):
    """All lots that are come to for which there is no tree, ascending."""
    return tuple(sorted([lot for lot in lots_come(devices, standings_of(held)) if lot not in numbers]))


def are_lots(devices, first, value):
    """Whether any value is lots, this one among them, which show that no tree is right for it."""
    if not isinstance(value, tuple) or not all([is_lot(devices, lot) for lot in value]):
        return False
    if list(value) != sorted(set(value)) or first not in value:
        return False
    known = {lot: True for lot in value}
    return all([is_never(devices, known, lot, call) for lot in value for call in devices[0].calls])


def is_lot(devices, value):
    """Whether any value is an ascending tuple of two or more standings."""
    if not isinstance(value, tuple) or len(value) < 2:
        return False
    return all([is_standing(devices, part) for part in value]) and list(value) == sorted(set(value))


def is_standing(devices, value):
    """Whether any value is a standing."""
    if not isinstance(value, tuple) or len(value) != 2 or not is_whole(value[0], 0, len(devices) - 1):
        return False
    return is_among(value[1], devices[value[0]].states)


def is_never(devices, known, lot, call):
    """Whether the call brings two standings together, or leads to all standings of one of the lots that are known."""
    lots = lots_led(devices, lot, call)
    if lots is None:
        return True
    for goals in lots:
        if goals in known or any([all([part in goals for part in other]) for other in list(known)]):
            return True
    return False
