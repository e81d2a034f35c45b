"""What is sure by a log whose beginning nobody saw."""

from toldboxes.devices import MOST_STEPS
from toldboxes.errors import BadLog, BadWalk
from toldboxes.homing import refuse_more, walk_home
from toldboxes.telling import refuse_devices
from toldboxes.words import is_among, is_row, is_same, is_walk


def now(device, log):
    """The states in which the device can be behind the log."""
    refuse_log(log, device)
    goals = [state_behind(device, state, log) for state in device.states]
    return tuple([state for state in device.states if state in goals])


def first(device, log):
    """The states from which on the device answers as the log has it."""
    refuse_log(log, device)
    return tuple([state for state in device.states if steps_right(device, state, log) == len(log)])


def torn(device, log):
    """The number of the first step behind which there is no state from which on the device answers so, or None."""
    refuse_log(log, device)
    right = max([steps_right(device, state, log) for state in device.states])
    return right if right < len(log) else None


def expected(device, log, walk):
    """What is answered to a walk behind the log, or two states from which it is answered otherwise."""
    refuse_calls(device, log, walk)
    number = torn(device, log)
    if number is not None:
        return "torn", number
    states = now(device, log)
    answers = device.begun(states[0]).heard(walk)
    others = [state for state in states if device.begun(state).heard(walk) != answers]
    return ("open", states[0], others[0]) if others else ("always", answers)


def shows_expected(device, log, walk, value):
    """Whether any value is such a result of expected."""
    found = expected(device, log, walk)
    if found[0] != "open":
        return is_same(value, found)
    if not isinstance(value, tuple) or len(value) != 3 or value[0] != "open":
        return False
    states = now(device, log)
    if not is_among(value[1], states) or not is_among(value[2], states):
        return False
    return device.begun(value[1]).heard(walk) != device.begun(value[2]).heard(walk)


def knowing(device, log):
    """The first walk behind which, behind the log, what was heard tells in which state the device is."""
    refuse_more(device)
    return walk_home(device, now(device, log))


def left(devices, log):
    """The numbers of the devices that can have told the log."""
    refuse_devices(devices)
    return tuple([number for number, device in enumerate(devices) if first(device, log)])


def refuse_log(log, device):
    """Raises BadLog for what is not a log of the device."""
    if not is_row(log, device.calls, device.answers, 0, MOST_STEPS):
        raise BadLog(log)


def refuse_calls(device, log, walk):
    """Raises what is due if the log or the walk behind it are none of the device."""
    refuse_log(log, device)
    if not is_walk(walk, device.calls, 0, MOST_STEPS):
        raise BadWalk(walk)


def steps_right(device, state, log):
    """How many steps of the log the device answers so, from this state on, until one is answered otherwise."""
    for at, (call, answer) in enumerate(log):
        reply, state = device.row(state, call)
        if reply != answer:
            return at
    return len(log)


def state_behind(device, state, log):
    """The state in which the device is behind the log, from this state on; None if it answers otherwise."""
    for call, answer in log:
        reply, state = device.row(state, call)
        if reply != answer:
            return None
    return state
