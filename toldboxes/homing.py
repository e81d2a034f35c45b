"""Coming home: walks for a device of which nobody knows in which state it is."""

from toldboxes.errors import NotLeast
from toldboxes.forms import least
from toldboxes.words import is_pair, is_same


def homing(device):
    """The first walk behind which what was heard tells in which state the device is."""
    refuse_more(device)
    return walk_home(device, device.states)


def resetting(device):
    """The first walk that leads from all states to one, or pairs of states that never come together."""
    refuse_more(device)
    walk = walk_to_one(device)
    return ("never", pairs_apart(device)) if walk is None else ("walk", walk)


def shows_resetting(device, value):
    """Whether any value is such a result of resetting."""
    refuse_more(device)
    if not isinstance(value, tuple) or len(value) != 2:
        return False
    if value[0] == "never":
        return are_apart(device, value[1])
    walk = walk_to_one(device)
    return value[0] == "walk" and walk is not None and is_same(value[1], walk)


def refuse_more(device):
    """Raises NotLeast if the device has more states than its least form."""
    if len(device) > len(least(device)):
        raise NotLeast(device)


def walk_home(device, states):
    """The first walk behind which what was heard tells the state, the device being in one of these states at first."""
    found = [[tuple(sorted(states))] if len(states) > 1 else []]
    walks = [()]
    at = 0
    while found[at]:
        for call in device.calls:
            lots = lots_behind(device, found[at], call)
            if lots not in found:
                found.append(lots)
                walks.append(walks[at] + (call,))
        at += 1
    return walks[at]


def lots_behind(device, lots, call):
    """The lots of two or more states in which the device may be then: those of one lot that are heard alike."""
    found = []
    for states in lots:
        for answer in device.answers:
            rows = [device.row(state, call) for state in states]
            goals = tuple(sorted({goal for reply, goal in rows if reply == answer}))
            if len(goals) > 1 and goals not in found:
                found.append(goals)
    return sorted(found)


def walk_to_one(device):
    """The first walk that leads from all states to one; None if there is none."""
    found = [tuple(sorted(device.states))]
    walks = [()]
    at = 0
    while at < len(found):
        if len(found[at]) == 1:
            return walks[at]
        for call in device.calls:
            goals = tuple(sorted({device.row(state, call)[1] for state in found[at]}))
            if goals not in found:
                found.append(goals)
                walks.append(walks[at] + (call,))
        at += 1
    return None


def pairs_apart(device):
    """All pairs of states, in the sequence of states, that no walk leads to one, ascending."""
    pairs = [(state, other) for at, other in enumerate(device.states) for state in device.states[:at]]
    kept = [pair for pair in pairs if stays_apart(device, pairs, pair)]
    while len(kept) < len(pairs):
        pairs = kept
        kept = [pair for pair in pairs if stays_apart(device, pairs, pair)]
    return tuple(sorted(pairs))


def stays_apart(device, pairs, pair):
    """Whether each call leads the states of a pair to unlike ones that are one of these pairs, in any sequence."""
    for call in device.calls:
        goals = (device.row(pair[0], call)[1], device.row(pair[1], call)[1])
        if goals not in pairs and goals[::-1] not in pairs:
            return False
    return True


def are_apart(device, value):
    """Whether any value is a tuple of pairs of states that never come together."""
    if not isinstance(value, tuple) or len(value) == 0:
        return False
    states = device.states
    if not all([is_pair(pair, states, states) and states.index(pair[0]) < states.index(pair[1]) for pair in value]):
        return False
    return list(value) == sorted(set(value)) and all([stays_apart(device, value, pair) for pair in value])
