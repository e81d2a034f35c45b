"""Which states are come to, which are alike, and the least form."""

from toldboxes.devices import Device


def come(device):
    """The states in which the device is behind some walk, by the first walks to them."""
    return tuple(list(first_walks(device)))


def first_walks(device):
    """A dict with the first walk to each state that is come to, in the sequence of these walks."""
    walks = {device.states[0]: ()}
    found = [device.states[0]]
    at = 0
    while at < len(found):
        for call in device.calls:
            goal = device.row(found[at], call)[1]
            if goal not in walks:
                walks[goal] = walks[found[at]] + (call,)
                found.append(goal)
        at += 1
    return walks


def kinds(device):
    """A dict with a number for each state of the device: alike states have the same number."""
    numbers = {state: 0 for state in device.states}
    # Each round looks one call further; states that are apart are so by fewer calls than there are states.
    for _ in device.states:
        looks = {state: look_of(device, numbers, state) for state in device.states}
        unlike = []
        for state in device.states:
            if looks[state] not in unlike:
                unlike.append(looks[state])
        numbers = {state: unlike.index(looks[state]) for state in device.states}
    return numbers


def look_of(device, numbers, state):
    """What is told of a state by its answers and by the numbers of the states to which it goes."""
    rows = [device.row(state, call) for call in device.calls]
    return [(answer, numbers[goal]) for answer, goal in rows]


def least(device):
    """The least form of the device."""
    numbers = kinds(device)
    heads = []
    order = []
    for state in come(device):
        if numbers[state] not in order:
            order.append(numbers[state])
            heads.append(state)
    rows = []
    for head in heads:
        told = look_of(device, numbers, head)
        rows.append([(answer, order.index(number)) for answer, number in told])
    return Device(spelled(device.calls, device.answers, rows))


def spelled(calls, answers, rows):
    """The text of the device with the states s0, s1 and so on; rows holds, by state and call, (answer, goal)."""
    names = [f"s{number}" for number in range(len(rows))]
    lines = [" ".join(["calls", *calls]), " ".join(["answers", *answers]), " ".join(["states", *names])]
    for name, row in zip(names, rows):
        for call, (answer, goal) in zip(calls, row):
            lines.append(f"row {name} {call} {answer} {names[goal]}")
    return "\n".join(lines)
