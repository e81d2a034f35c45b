"""Suites: tests that always prove a device, and what tests cost."""

from toldboxes.errors import BadNumber, Wide
from toldboxes.forms import first_walks, least
from toldboxes.likeness import parting
from toldboxes.records import MOST_NODES, MOST_TESTS, asked
from toldboxes.words import in_sequence, is_whole, longest_of

MOST_RESET = 99


def ways(device):
    """For each state of the least form the first walk to it."""
    form = least(device)
    walks = first_walks(form)
    return tuple([walks[state] for state in form.states])


def parters(device):
    """The walks that part the states of the least form, two by two."""
    form = least(device)
    if len(form) == 1:
        return ((),)
    walks = []
    for at, state in enumerate(form.states):
        for other in form.states[:at]:
            walk = parting(form, state, other)
            if walk not in walks:
                walks.append(walk)
    return tuple(in_sequence(walks, form.calls))


def suite(device, more):
    """The tests that prove the device among all of at most so many more states than its least form has."""
    if not is_whole(more, 0, 1):
        raise BadNumber(more)
    longest, nodes = longest_of(suite_walks(device, more), device.calls)
    if len(longest) > MOST_TESTS or nodes > MOST_NODES:
        raise Wide(len(longest))
    return asked(device, tuple(longest))


def price(tests, reset):
    """How many calls the tests have together, and reset for each test."""
    refuse_reset(reset)
    return price_of(tests.walks, reset)


def suite_walks(device, more):
    """The list of all walks made of a way, a walk of none to more + 1 calls, and a parter."""
    walks = []
    for way in ways(device):
        for between in walks_to(device.calls, more + 1):
            walks.extend([way + between + parter for parter in parters(device)])
    return walks


def walks_to(calls, most):
    """The list of all walks of none to so many calls."""
    walks = level = [()]
    for _ in range(most):
        level = [walk + (call,) for walk in level for call in calls]
        walks = walks + level
    return walks


def refuse_reset(reset):
    """Raises BadNumber for what cannot be the price of a reset."""
    if not is_whole(reset, 0, MOST_RESET):
        raise BadNumber(reset)


def price_of(walks, reset):
    """What tests with these walks cost."""
    return sum([len(walk) + reset for walk in walks])
