"""Which state it was, and which of several devices it is."""

from toldboxes.devices import MOST_STEPS, Device
from toldboxes.errors import BadDevices
from toldboxes.homing import refuse_more
from toldboxes.likeness import refuse_other, same_words
from toldboxes.trees import are_lots, depths, is_tree, lots_never, tree_for
from toldboxes.words import is_same, is_walk

MOST_DEVICES = 4


def telling(device):
    """A tree that tells in which state the device was, or lots of states that nothing tells apart."""
    refuse_more(device)
    return told_by((device,), states_held(device))


def shows_telling(device, value):
    """Whether any value is such a result of telling."""
    refuse_more(device)
    return is_told_by((device,), states_held(device), value)


def which(devices):
    """A tree that tells which of the devices it is, or lots of standings that nothing tells apart."""
    refuse_devices(devices)
    return told_by(devices, numbers_held(devices))


def shows_which(devices, value):
    """Whether any value is such a result of which."""
    refuse_devices(devices)
    return is_told_by(devices, numbers_held(devices), value)


def within(one, other):
    """After how many calls, whatever they are, two devices are told; or a walk that goes round without telling."""
    refuse_other(one, other)
    numbers = ends(one, other)
    first = (one.states[0], other.states[0])
    if first in numbers:
        return "within", numbers[first]
    walk, turn = ring_from(one, other, numbers)
    return "ring", walk, turn


def shows_within(one, other, value):
    """Whether any value is such a result of within."""
    refuse_other(one, other)
    if not isinstance(value, tuple) or len(value) not in (2, 3):
        return False
    if len(value) == 3:
        return value[0] == "ring" and is_ring(one, other, value[1], value[2])
    number = ends(one, other).get((one.states[0], other.states[0]))
    return value[0] == "within" and number is not None and is_same(value[1], number)


def states_held(device):
    """For each state of the device its name and its standing."""
    return [(state, (0, state)) for state in sorted(device.states)]


def numbers_held(devices):
    """For each of the devices its number and its first standing."""
    return [(number, (number, device.states[0])) for number, device in enumerate(devices)]


def refuse_devices(devices):
    """Raises BadDevices for what is not a tuple of two to four devices with the same calls and answers."""
    if not isinstance(devices, tuple) or not 2 <= len(devices) <= MOST_DEVICES:
        raise BadDevices(devices)
    if not all([isinstance(device, Device) and same_words(devices[0], device) for device in devices]):
        raise BadDevices(devices)


def told_by(devices, held):
    """The tree that tells what is held, or the lots that show that there is none."""
    numbers = depths(devices, held)
    if tuple([standing for _, standing in held]) in numbers:
        return "tree", tree_for(devices, numbers, held)
    return "never", lots_never(devices, numbers, held)


def is_told_by(devices, held, value):
    """Whether any value is such a result of told_by."""
    if not isinstance(value, tuple) or len(value) != 2:
        return False
    standings = tuple([standing for _, standing in held])
    if value[0] == "never":
        return are_lots(devices, standings, value[1])
    deep = depths(devices, held).get(standings)
    return value[0] == "tree" and deep is not None and is_tree(devices, held, value[1], deep)


def goals_alike(one, other, pair):
    """The list of the calls that two states answer alike, each with the pair to which it leads."""
    found = []
    for call in one.calls:
        answer, goal = one.row(pair[0], call)
        reply, aim = other.row(pair[1], call)
        if answer == reply:
            found.append((call, (goal, aim)))
    return found


def ends(one, other):
    """For the pairs of states from which no walk is heard alike for ever: how many calls tell them in any case."""
    pairs = [(state, begin) for state in one.states for begin in other.states]
    numbers = {}
    # Each round finds those one call further; a walk that comes to no pair twice has no more calls than pairs.
    for _ in pairs:
        for pair in pairs:
            goals = [goal for _, goal in goals_alike(one, other, pair)]
            if all([goal in numbers for goal in goals]):
                numbers[pair] = 1 + max([numbers[goal] for goal in goals], default=0)
    return numbers


def ring_from(one, other, numbers):
    """A walk from the first states and a round behind it that are heard alike."""
    pairs = [(one.states[0], other.states[0])]
    calls = []
    while pairs[-1] not in pairs[:-1]:
        further = [(call, goal) for call, goal in goals_alike(one, other, pairs[-1]) if goal not in numbers]
        calls.append(further[0][0])
        pairs.append(further[0][1])
    at = pairs.index(pairs[-1])
    return tuple(calls[:at]), tuple(calls[at:])


def is_ring(one, other, walk, turn):
    """Whether any two values are a walk and a round behind it that are heard alike and lead back."""
    if not is_walk(walk, one.calls, 0, MOST_STEPS) or not is_walk(turn, one.calls, 1, MOST_STEPS):
        return False
    goal, aim = one.behind(walk), other.behind(walk)
    # Both together may have more calls than a walk: the round is gone from where the walk has led.
    left, right = one.begun(goal), other.begun(aim)
    if one.heard(walk) != other.heard(walk) or left.heard(turn) != right.heard(turn):
        return False
    return left.behind(turn) == goal and right.behind(turn) == aim
