"""Lots of rows, and the versions of a device whose rows of a lot are any ones."""

from toldboxes.devices import read_device
from toldboxes.errors import BadLot
from toldboxes.likeness import same_words
from toldboxes.records import wrong
from toldboxes.words import is_row

MOST_ROWS = 3


def refuse_lot(device, lot):
    """Raises BadLot for what is not a lot of rows of the device."""
    if not is_row(lot, device.states, device.calls, 1, MOST_ROWS) or len(set(lot)) < len(lot):
        raise BadLot(lot)


def versions_by(device, lot, tests):
    """The list of all versions by the lot that agree with these rows of tests; the lot may also be ()."""
    any_row = [(answer, goal) for answer in device.answers for goal in device.states]
    found = []
    for filled in fillings(device, lot, tests):
        versions = [device]
        for (state, call), known in zip(lot, filled):
            rows = any_row if known is None else [known]
            versions = [version.turned(state, call, *row) for version in versions for row in rows]
        found.extend(versions)
    return found


def fillings(device, lot, tests):
    """All ways of filling the rows of the lot by which these tests go, so that all of them are answered as told.

    Each one is a tuple with (answer, goal) for each row of the lot, None for a row by which no test goes then.
    """
    waiting = [(None,) * len(lot)]
    found = []
    while waiting:
        filled = waiting.pop()
        agrees, at, answer = first_gap(device, lot, filled, tests)
        if not agrees:
            continue
        if at is None:
            found.append(filled)
        else:
            waiting.extend([filled[:at] + ((answer, goal),) + filled[at + 1:] for goal in device.states])
    return found


def first_gap(device, lot, filled, tests):
    """Whether the tests are answered as told up to the first row that is not filled; its number and the answer told.

    Number and answer are None where they come to no such row.
    """
    for test in tests:
        state = device.states[0]
        for call, answer in test:
            if (state, call) in lot:
                at = lot.index((state, call))
                if filled[at] is None:
                    return True, at, answer
                reply, state = filled[at]
            else:
                reply, state = device.row(state, call)
            if reply != answer:
                return False, None, None
    return True, None, None


def agreeing_version(device, lot, tests, text):
    """The device of this text, for any value, if it is a version by the lot and agrees with the tests, or None."""
    version = read_device(text)
    if version is None or not same_words(device, version) or device.states != version.states:
        return None
    rows = [(state, call) for state in device.states for call in device.calls if (state, call) not in lot]
    if any([device.row(state, call) != version.row(state, call) for state, call in rows]):
        return None
    return None if wrong(version, tests) else version
