"""Choosing tests out of a menu: the cheapest ones that prove a device, and the best next one."""

from toldboxes.devices import Device
from toldboxes.errors import BadMenu, Full, Many
from toldboxes.proving import does_pass, passing, refuse_few
from toldboxes.records import MOST_NODES, MOST_TESTS, asked, wrong
from toldboxes.sortings import all_sortings, refuse_number
from toldboxes.suites import price_of, refuse_reset
from toldboxes.words import MOST_PAIRS, is_same, is_walk

MOST_WALKS = 6


def cheapest(device, m, menu, reset):
    """The first choice that proves the device, and for each one ahead of it a device that passes."""
    refuse_few(device, m)
    refuse_menu(menu, device.calls)
    refuse_reset(reset)
    found = passing(device, asked(device, menu), m)
    if found is not None:
        return "passes", *found
    reasons = []
    for choice in choices(menu, reset):
        tests = asked(device, chosen(menu, choice))
        found = one_more(device, tests, m, reasons)
        if found is None:
            all_sortings(tests, m)
            return "choice", price_of(tests.walks, reset), choice, tuple(reasons)
        reasons.append((choice, *found))


def shows_cheapest(device, m, menu, reset, value):
    """Whether any value is such a result of cheapest."""
    found = cheapest(device, m, menu, reset)
    if not isinstance(value, tuple) or len(value) < 3:
        return False
    if value[0] == "passes":
        return does_pass(device, asked(device, menu), m, value[1:])
    if len(value) != 4 or not is_same(value[:3], found[:3]):
        return False
    if not isinstance(value[3], tuple) or len(value[3]) != len(found[3]):
        return False
    ahead = [reason[0] for reason in found[3]]
    return all([is_reason(device, m, menu, choice, reason) for choice, reason in zip(ahead, value[3])])


def next_walk(tests, m, menu):
    """The number of the first walk by which the fewest sortings can be left at the most, and how many these are."""
    refuse_number(tests.calls, m)
    refuse_menu(menu, tests.calls)
    if not all([walk not in tests and walk[:-1] in tests for walk in menu]):
        raise BadMenu(menu)
    if len(tests) == MOST_TESTS:
        raise Full(MOST_TESTS)
    if len(tests.nodes) == MOST_NODES:
        raise Many(MOST_NODES)
    left = [most_left(tests, m, walk) for walk in menu]
    return left.index(min(left)), min(left)


def refuse_menu(menu, calls):
    """Raises BadMenu for what is not a menu of walks of these calls."""
    if not is_menu(menu, calls):
        raise BadMenu(menu)


def is_menu(value, calls):
    """Whether any value is a menu of walks of these calls."""
    if not isinstance(value, tuple) or not 1 <= len(value) <= MOST_WALKS:
        return False
    return all([is_walk(walk, calls, 1, MOST_PAIRS) for walk in value]) and len(set(value)) == len(value)


def choices(menu, reset):
    """The list of all choices out of a menu, as they stand in sequence."""
    found = [()]
    for number in range(len(menu)):
        found = found + [choice + (number,) for choice in found]
    return sorted(found, key=lambda choice: (price_of(chosen(menu, choice), reset), len(choice), choice))


def chosen(menu, choice):
    """The walks of a choice."""
    return tuple([menu[number] for number in choice])


def one_more(device, tests, m, reasons):
    """The text and the walk of a device that passes, None if there is none; reasons has those that passed others."""
    for _, text, walk in reasons:
        if not wrong(Device(text), tests):
            return text, walk
    return passing(device, tests, m)


def is_reason(device, m, menu, choice, value):
    """Whether any value is the choice, with the text of a device that passes its walks, and a walk."""
    if not isinstance(value, tuple) or len(value) != 3 or not is_same(value[0], choice):
        return False
    return does_pass(device, asked(device, chosen(menu, choice)), m, value[1:])


def most_left(tests, m, walk):
    """The greatest number of sortings that the tests have with this walk behind them, over all answers to its end."""
    row = tuple(zip(walk, tests.told(walk[:-1])))
    return max([len(all_sortings(tests.more(row + ((walk[-1], answer),)), m)) for answer in tests.answers])
