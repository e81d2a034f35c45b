"""Whether states and devices are alike, and a walk by which they are not."""

from toldboxes.devices import MOST_STEPS, Device
from toldboxes.errors import NoState, OtherCalls
from toldboxes.words import is_walk


def parting(device, state, other):
    """The first walk that parts two states of the device, None if they are alike."""
    for name in (state, other):
        if name not in device:
            raise NoState(name)
    return meet(device, state, device, other)[1]


def alike(one, other):
    """Whether two devices are alike: with all pairs in which they are, or with a shortest walk that parts them."""
    pairs, walk = met(one, other)
    if walk is None:
        return "alike", tuple(sorted(pairs))
    return "apart", walk


def shows_alike(one, other, value):
    """Whether any value is such a result of alike."""
    pairs, walk = met(one, other)
    if walk is None:
        return value == ("alike", tuple(sorted(pairs)))
    if not isinstance(value, tuple) or len(value) != 2 or value[0] != "apart":
        return False
    return is_heard_otherwise(one, other, value[1]) and len(value[1]) == len(walk)


def met(one, other):
    """What meet tells of the first states of two devices."""
    refuse_other(one, other)
    return meet(one, one.states[0], other, other.states[0])


def refuse_other(one, other):
    """Raises OtherCalls unless any value is a device with the same calls and answers in the same sequence."""
    if not isinstance(other, Device) or not same_words(one, other):
        raise OtherCalls(other)


def meet(one, state, other, begin):
    """The list of the pairs that are come to from these two states, and the first walk that parts these or None.

    The list is whole only if no walk parts them.
    """
    pairs = [(state, begin)]
    walks = [()]
    at = 0
    while at < len(pairs):
        for call in one.calls:
            answer, goal = one.row(pairs[at][0], call)
            reply, aim = other.row(pairs[at][1], call)
            walk = walks[at] + (call,)
            if answer != reply:
                return pairs, walk
            if (goal, aim) not in pairs:
                pairs.append((goal, aim))
                walks.append(walk)
        at += 1
    return pairs, None


def same_words(one, other):
    """Whether two devices, or tests or what is like them, have the same calls and answers in the same sequence."""
    return one.calls == other.calls and one.answers == other.answers


def refuse_words(one, other):
    """Raises OtherCalls unless both have the same calls and answers in the same sequence."""
    if not same_words(one, other):
        raise OtherCalls(other)


def is_heard_otherwise(one, other, walk):
    """Whether any value is a walk of these devices that they answer otherwise."""
    return is_walk(walk, one.calls, 0, MOST_STEPS) and one.heard(walk) != other.heard(walk)
