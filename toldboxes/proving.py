"""Whether tests prove a device among all devices of at most so many states."""

from toldboxes.cases import Sorter, Tree, are_cases, cases_of
from toldboxes.devices import Device
from toldboxes.errors import Against, Few
from toldboxes.forms import kinds, least
from toldboxes.likeness import alike, is_heard_otherwise, refuse_words
from toldboxes.records import agreeing, wrong
from toldboxes.sortings import all_sortings, most_classes, refuse_number, text_by
from toldboxes.words import is_among, is_whole


def proves(device, tests, m):
    """Cases by which the tests prove the device, or a device that passes and a walk by which it is heard."""
    found = passes(device, tests, m)
    if found is not None:
        return "passes", *found
    return "proved", proof(device, tests, m)


def shows_proves(device, tests, m, value):
    """Whether any value is such a result of proves."""
    passes(device, tests, m)
    if not isinstance(value, tuple) or len(value) < 2:
        return False
    if value[0] == "passes":
        return does_pass(device, tests, m, value[1:])
    return value[0] == "proved" and len(value) == 2 and is_proof(device, tests, m, value[1])


def fooled(device, tests):
    """The least number of states of a device that passes, that device and a walk; or cases by which there is none."""
    found = fools(device, tests)
    if found is not None:
        return "fooled", *found
    return "none", proof(device, tests, most_classes(tests.calls))


def shows_fooled(device, tests, value):
    """Whether any value is such a result of fooled."""
    found = fools(device, tests)
    if not isinstance(value, tuple) or len(value) < 2:
        return False
    if value[0] == "none":
        return len(value) == 2 and is_proof(device, tests, most_classes(tests.calls), value[1])
    if found is None or value[0] != "fooled" or not is_whole(value[1], found[0], found[0]):
        return False
    # No device of fewer states passes, so one that does with at most so many has just so many.
    return does_pass(device, tests, found[0], value[2:])


def needless(device, tests, m):
    """The numbers of the tests each of which may be left out by itself."""
    if passes(device, tests, m) is not None:
        return ()
    # The others have no more sortings where they prove it, too: one for each device that is alike with this one.
    return tuple([at for at in range(len(tests)) if passing(device, tests.without(at), m) is None])


def refuse_tests(device, tests):
    """Raises what is due if the device does not agree with the tests."""
    refuse_words(device, tests)
    against = wrong(device, tests)
    if against:
        raise Against(against[0])


def refuse_few(device, m):
    """Raises what is due if m is no number of classes, or less than the states of the least form."""
    refuse_number(device.calls, m)
    many = len(least(device))
    if m < many:
        raise Few(many)


def passes(device, tests, m):
    """What proves raises; and the text and the walk of a device that passes, None if the tests prove it."""
    refuse_tests(device, tests)
    refuse_few(device, m)
    found = passing(device, tests, m)
    if found is None:
        all_sortings(tests, m)
    return found


def fools(device, tests):
    """What fooled raises; and the number, the text and the walk of a device that passes, None if there is none."""
    refuse_tests(device, tests)
    for number in range(1, most_classes(tests.calls) + 1):
        found = passing(device, tests, number)
        if found is not None:
            return number, *found
    all_sortings(tests, most_classes(tests.calls))
    return None


def passing(device, tests, m):
    """The text and the walk of a device of at most m states that agrees and is not alike; None if there is none."""
    tree = Tree(tests)
    states = [device.behind(node) for node in tests.nodes]
    numbers = kinds(device)
    lots = [numbers[state] for state in states]
    sorter = Sorter(tree, m)
    classes = sorter.advance()
    while classes is not None and is_as_device(tree, classes, lots):
        classes = sorter.advance()
    if classes is None:
        return None
    text = contrary(device, tree, classes, states)
    return text, alike(device, Device(text))[1]


def is_as_device(tree, classes, lots):
    """Whether a sorting lets only devices that are alike with device; lots has for each node that of its state there.

    So it is if some node tells each row, and the nodes of a class are all of one lot.
    """
    many = max(classes) + 1
    if len({(place, lot) for place, lot in zip(classes, lots)}) > many:
        return False
    rows = {(classes[tree.parents[at]], tree.steps[at]) for at in range(1, len(classes))}
    return len(rows) == many * tree.width


def contrary(device, tree, classes, states):
    """The text of a device that comes of a sorting, and that answers otherwise than device where no node tells."""
    spare = []
    for number in range(max(classes) + 1):
        state = states[classes.index(number)]
        spare.append([other_answer(device, state, call) for call in device.calls])
    return text_by(tree, classes, spare)


def other_answer(device, state, call):
    """An answer that the device does not give there."""
    return [answer for answer in device.answers if answer != device.row(state, call)[0]][0]


def does_pass(device, tests, m, value):
    """Whether a tuple is the text of a device that passes and a walk by which it is heard."""
    other = agreeing(value[0], tests, m) if len(value) == 2 else None
    return other is not None and is_heard_otherwise(device, other, value[1])


def proof(device, tests, m):
    """The cases by which the tests prove the device."""
    states = [device.behind(node) for node in tests.nodes]
    return cases_of(Tree(tests), m, lambda classes: alike_end(classes, states))


def alike_end(classes, states):
    """The end for a sorting: for each class the state in which the device is behind the first node of it."""
    return "alike", tuple([states[classes.index(number)] for number in range(max(classes) + 1)])


def is_proof(device, tests, m, value):
    """Whether any value is cases by which the tests prove the device."""
    numbers = kinds(device)
    return are_cases(Tree(tests), m, value, lambda beginning, end: is_alike_end(device, numbers, beginning, end))


def is_alike_end(device, numbers, beginning, value):
    """Whether a tuple is an end of a proof for a beginning."""
    if len(value) != 2 or value[0] != "alike" or not isinstance(value[1], tuple):
        return False
    states = value[1]
    if len(states) != beginning.many or not all([is_among(state, device.states) for state in states]):
        return False
    rows = rows_done(device, numbers, beginning, states)
    return states[0] == device.states[0] and len(rows) == len(states) * len(device.calls)


def rows_done(device, numbers, beginning, states):
    """The list of the rows (class, call) that some node tells as the device has them for the states of the classes."""
    done = []
    for (place, call), (answers, behind) in beginning.rows_said().items():
        answer, goal = device.row(states[place], call)
        if answer in answers and numbers[goal] == numbers[states[behind]]:
            done.append((place, call))
    return done
