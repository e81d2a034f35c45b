"""Going on from one thing to all that calls lead to, until something is lost.

A step tells, for a thing and a call, the thing to which both lead, or None if something is lost by it.
"""

from toldboxes.words import is_same, is_walk


def come_from(first, calls, step):
    """The list of all that is come to, and a walk, as short as can be, by which something is lost, or None.

    The list is whole only if nothing is lost.
    """
    found = [first]
    walks = [()]
    at = 0
    while at < len(found):
        for call in calls:
            goal = step(found[at], call)
            if goal is None:
                return found, walks[at] + (call,)
            if goal not in found:
                found.append(goal)
                walks.append(walks[at] + (call,))
        at += 1
    return found, None


def gone_by(first, walk, step):
    """To what the walk leads; None if something is lost on it."""
    place = first
    for call in walk:
        place = step(place, call)
        if place is None:
            return None
    return place


def told_of(words, first, calls, step):
    """The first word with all that is come to, ascending; or, if something is lost, the second one with a walk."""
    found, walk = come_from(first, calls, step)
    return (words[0], tuple(sorted(found))) if walk is None else (words[1], walk)


def is_told_of(words, first, calls, step, value):
    """Whether any value is such a result of told_of."""
    told = told_of(words, first, calls, step)
    if told[0] == words[0]:
        return is_same(value, told)
    if not isinstance(value, tuple) or len(value) != 2 or value[0] != words[1]:
        return False
    many = len(told[1])
    return is_walk(value[1], calls, many, many) and gone_by(first, value[1], step) is None
