"""What is sure of further walks, and of rows, by tests."""

from toldboxes.cases import Sorter, Tree, are_cases, cases_of
from toldboxes.devices import MOST_STEPS
from toldboxes.errors import BadWalk
from toldboxes.forms import first_walks
from toldboxes.known import Known, rows_known
from toldboxes.likeness import is_heard_otherwise, meet
from toldboxes.proving import refuse_few, refuse_tests
from toldboxes.records import agreeing
from toldboxes.sortings import all_sortings, refuse_number, text_with
from toldboxes.words import in_sequence, is_same, is_walk


def judged(tests, m, walk):
    """What all devices of at most m states that agree with the tests answer to the walk."""
    found = judgement(tests, m, walk)
    if found[0] == "none":
        return "none", cases_of(Tree(tests), m, None)
    if found[0] == "always":
        return "always", found[1], cases_of(Tree(tests), m, lambda classes: ("heard",))
    return found


def shows_judged(tests, m, walk, value):
    """Whether any value is such a result of judged."""
    found = judgement(tests, m, walk)
    if not isinstance(value, tuple) or len(value) not in (2, 3):
        return False
    if value[0] == "none":
        return len(value) == 2 and are_cases(Tree(tests), m, value[1], None)
    if len(value) == 2:
        return False
    if value[0] == "open":
        return are_open(tests, m, walk, value[1], value[2])
    if value[0] != "always" or found[0] != "always" or not is_same(value[1], found[1]):
        return False
    return are_cases(Tree(tests), m, value[2], lambda beginning, end: is_heard_end(beginning, end, walk, found[1]))


def first_open(device, tests, m):
    """The first walk to which a device of at most m states that agrees answers otherwise than device, or None."""
    walks = [meet(device, device.states[0], known, 0)[1] for known in all_known(device, tests, m)]
    found = in_sequence([walk for walk in walks if walk is not None], device.calls)
    return found[0] if found else None


def rows_told(device, tests):
    """The rows of the device by which some test goes."""
    refuse_tests(device, tests)
    told = {(device.behind(node[:-1]), node[-1]) for node in tests.nodes[1:]}
    return tuple([(state, call) for state in device.states for call in device.calls if (state, call) in told])


def answers_sure(device, tests, m):
    """The rows that all devices of at most m states that agree answer as device does, behind the first walk there."""
    found = all_known(device, tests, m)
    return rows_come(device, lambda walk: all([is_as_heard(device, known, walk) for known in found]))


def rows_sure(device, tests, m):
    """Those rows behind which, too, all these devices answer as device does to whatever is called."""
    found = all_known(device, tests, m)
    return rows_come(device, lambda walk: all([is_as_heard_on(device, known, walk) for known in found]))


def judgement(tests, m, walk):
    """What judged raises; and what it tells, but for the cases."""
    refuse_number(tests.calls, m)
    if not is_walk(walk, tests.calls, 0, MOST_STEPS):
        raise BadWalk(walk)
    tree = Tree(tests)
    sorter = Sorter(tree, m)
    first = classes = sorter.advance()
    if first is None:
        return ("none",)
    answers = Known(rows_known(tree, first)).gone(walk)[0]
    while classes is not None:
        heard = Known(rows_known(tree, classes)).gone(walk)[0]
        if None in heard:
            return "open", text_with(tree, classes, tests.answers[0]), text_with(tree, classes, tests.answers[1])
        if heard != answers:
            return "open", text_with(tree, first, tests.answers[0]), text_with(tree, classes, tests.answers[0])
        classes = sorter.advance()
    all_sortings(tests, m)
    return "always", answers


def are_open(tests, m, walk, text, other):
    """Whether any two values are texts of devices that agree and answer the walk otherwise."""
    first = agreeing(text, tests, m)
    second = agreeing(other, tests, m)
    return first is not None and second is not None and is_heard_otherwise(first, second, walk)


def is_heard_end(beginning, value, walk, answers):
    """Whether a tuple is an end for a beginning by which the walk is answered so."""
    if len(value) != 1 or value[0] != "heard":
        return False
    tree = beginning.tree
    places = [beginning.classes[parent] for parent in tree.parents]
    told = {(places[at], tree.nodes[at][-1], tree.replies[at]) for at in range(1, len(places))}
    place = 0
    for call, answer in zip(walk, answers):
        if place is None or (place, call, answer) not in told:
            return False
        place = beginning.goals[place * tree.width + tree.tests.calls.index(call)]
    return True


def all_known(device, tests, m):
    """What first_open raises; and the rows of each sorting by m."""
    refuse_tests(device, tests)
    refuse_few(device, m)
    tree = Tree(tests)
    return [Known(rows_known(tree, classes)) for classes in all_sortings(tests, m)]


def rows_come(device, is_right):
    """The rows of all states that are come to for which the first walk there, with the call behind it, is right."""
    walks = first_walks(device)
    rows = [(state, call) for state in device.states if state in walks for call in device.calls]
    return tuple([(state, call) for state, call in rows if is_right(walks[state] + (call,))])


def is_as_heard(device, known, walk):
    """Whether the rows that are known answer the walk as device does."""
    return known.gone(walk)[0] == device.heard(walk)


def is_as_heard_on(device, known, walk):
    """Whether they answer so, and also to whatever is called behind the walk."""
    if not is_as_heard(device, known, walk):
        return False
    return meet(device, device.behind(walk), known, known.gone(walk)[1])[1] is None
