"""Whether promises are kept, by a device and by all devices that agree with tests."""

from toldboxes.cases import Sorter, Tree, are_cases, cases_of
from toldboxes.devices import MOST_STEPS
from toldboxes.going import come_from, is_told_of, told_of
from toldboxes.known import Known, rows_known
from toldboxes.likeness import refuse_words
from toldboxes.sortings import all_sortings, is_sorting, refuse_number
from toldboxes.watches import BROKEN, safe, way_to_broken
from toldboxes.words import is_among, is_row, is_whole

WORDS = ("kept", "broken")


def kept(device, watch):
    """All pairs in which device and watch are behind some walk, or a shortest walk behind which it is broken."""
    refuse_words(device, watch)
    first = (device.states[0], watch.marks[0])
    return told_of(WORDS, first, device.calls, lambda pair, call: looked_on(device, watch, pair, call))


def shows_kept(device, watch, value):
    """Whether any value is such a result of kept."""
    refuse_words(device, watch)
    first = (device.states[0], watch.marks[0])
    return is_told_of(WORDS, first, device.calls, lambda pair, call: looked_on(device, watch, pair, call), value)


def always_kept(tests, watch, m):
    """Whether the watch is kept by all devices that agree and are in at most m states at all nodes together."""
    found = keeping(tests, watch, m)
    if found[0] == "none":
        return "none", cases_of(Tree(tests), m, None)
    if found[0] == "broken":
        return found
    tree = Tree(tests)
    risks = risks_of(watch)
    return "kept", cases_of(tree, m, lambda classes: kept_end(tree, watch, risks, classes))


def shows_always_kept(tests, watch, m, value):
    """Whether any value is such a result of always_kept."""
    found = keeping(tests, watch, m)
    if not isinstance(value, tuple) or len(value) not in (2, 3):
        return False
    if len(value) == 3:
        return value[0] == "broken" and does_break(tests, watch, m, value[1], value[2])
    if value[0] == "none":
        return are_cases(Tree(tests), m, value[1], None)
    if value[0] != "kept" or found[0] != "kept":
        return False
    risks = risks_of(watch)
    return are_cases(Tree(tests), m, value[1], lambda beginning, end: is_kept_end(watch, risks, beginning, end))


def looked_on(device, watch, pair, call):
    """The pair (state, mark) behind this one by the call; None if the watch is broken then."""
    answer, goal = device.row(pair[0], call)
    mark = watch.step(pair[1], call, answer)
    return None if mark == BROKEN else (goal, mark)


def risks_of(watch):
    """The list of the (mark, call) by which some answer leads to broken, or to a mark that is not safe."""
    held = safe(watch)
    pairs = [(mark, call) for mark in watch.marks for call in watch.calls]
    return [pair for pair in pairs if any([watch.step(*pair, answer) not in held for answer in watch.answers])]


def pairs_met(tree, watch, risks, classes):
    """The list of the pairs (class, mark) that are come to; and a walk by which or behind which it can be broken."""
    known = Known(rows_known(tree, classes))
    first = (0, watch.marks[0])
    return come_from(first, watch.calls, lambda pair, call: risked(known, watch, risks, pair, call))


def risked(known, watch, risks, pair, call):
    """The pair (class, mark) behind this one by the call; None if the watch is broken or the row is not known.

    By a call without risk it is the same pair: nothing is looked at behind it.
    """
    place, mark = pair
    if (mark, call) not in risks:
        return pair
    answer, goal = known.row(place, call)
    if answer is None:
        return None
    aim = watch.step(mark, call, answer)
    return None if aim == BROKEN else (goal, aim)


def keeping(tests, watch, m):
    """What always_kept raises; and what it tells, but for the cases."""
    refuse_words(tests, watch)
    refuse_number(tests.calls, m)
    tree = Tree(tests)
    risks = risks_of(watch)
    sorter = Sorter(tree, m)
    classes = sorter.advance()
    if classes is None:
        return ("none",)
    while classes is not None:
        walk = pairs_met(tree, watch, risks, classes)[1]
        if walk is not None:
            return "broken", tuple(classes), breaking(Known(rows_known(tree, classes)), watch, walk)
        classes = sorter.advance()
    all_sortings(tests, m)
    return ("kept",)


def breaking(known, watch, walk):
    """A log with this walk by which the watch is broken; behind a row that is not known it goes on anyhow."""
    log = ()
    place = 0
    for call in walk:
        answer, place = known.row(place, call)
        if answer is None:
            ways = ways_from(watch, watch.behind(log), call)
            return log + ways[0]
        log = log + ((call, answer),)
    return log


def ways_from(watch, mark, call):
    """The list of the steps by which the watch is broken that begin with this call, for each answer that lets such."""
    found = []
    for answer in watch.answers:
        way = way_to_broken(watch, watch.step(mark, call, answer))
        if way is not None:
            found.append(((call, answer),) + way)
    return found


def kept_end(tree, watch, risks, classes):
    """The end for a sorting: the pairs (class, mark) that are come to."""
    return "kept", tuple(sorted(pairs_met(tree, watch, risks, classes)[0]))


def does_break(tests, watch, m, classes, log):
    """Whether any two values are a sorting and a log that goes by it and breaks the watch."""
    tree = Tree(tests)
    if not is_sorting(tree, m, classes) or not is_row(log, tests.calls, tests.answers, 0, MOST_STEPS):
        return False
    known = Known(rows_known(tree, classes))
    place = 0
    for call, answer in log:
        # Behind the first row that is not known none is known any more.
        told, place = known.row(place, call)
        if told is not None and told != answer:
            return False
    return watch.behind(log) == BROKEN


def is_kept_end(watch, risks, beginning, value):
    """Whether a tuple is an end for a beginning by which the watch is kept."""
    if len(value) != 2 or value[0] != "kept" or not isinstance(value[1], tuple):
        return False
    pairs = value[1]
    if not all([is_pair_of(pair, beginning.many, watch.marks) for pair in pairs]):
        return False
    if list(pairs) != sorted(set(pairs)) or (0, watch.marks[0]) not in pairs:
        return False
    rows = beginning.rows_said()
    needed = [(place, mark, call) for place, mark in pairs for call in watch.calls if (mark, call) in risks]
    return all([is_led_on(watch, rows, pairs, *part) for part in needed])


def is_pair_of(value, many, marks):
    """Whether any value is a pair of a class and a mark."""
    if not isinstance(value, tuple) or len(value) != 2:
        return False
    return is_whole(value[0], 0, many - 1) and is_among(value[1], marks)


def is_led_on(watch, rows, pairs, place, mark, call):
    """Whether an answer that is told to this call in this class leads to one of the pairs."""
    answers, goal = rows.get((place, call), ((), None))
    return any([(goal, watch.step(mark, call, answer)) in pairs for answer in answers])
