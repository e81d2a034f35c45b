"""Sortings of tests, and whether any device agrees with them."""

from toldboxes.cases import Sorter, Tree, are_cases, cases_of
from toldboxes.errors import BadNumber, Long
from toldboxes.forms import spelled
from toldboxes.records import agreeing
from toldboxes.words import is_whole

MOST_SORTINGS = 600


def sortings(tests, m):
    """How many sortings the tests have by m."""
    refuse_number(tests.calls, m)
    return len(all_sortings(tests, m))


def nth_sorting(tests, m, number):
    """The sorting that has this number, as they are sorted."""
    refuse_number(tests.calls, m)
    found = all_sortings(tests, m)
    if not is_whole(number, 0, len(found) - 1):
        raise BadNumber(number)
    return tuple(found[number])


def fits(tests, m):
    """A device of at most m states that agrees with the tests, or cases by which there is none."""
    refuse_number(tests.calls, m)
    tree = Tree(tests)
    classes = Sorter(tree, m).advance()
    if classes is None:
        return "none", cases_of(tree, m, None)
    return "device", text_with(tree, classes, tests.answers[0])


def shows_fits(tests, m, value):
    """Whether any value is such a result of fits."""
    refuse_number(tests.calls, m)
    if not isinstance(value, tuple) or len(value) != 2:
        return False
    if value[0] == "device":
        return agreeing(value[1], tests, m) is not None
    return value[0] == "none" and are_cases(Tree(tests), m, value[1], None)


def most_classes(calls):
    """How many classes may be asked for at the most."""
    return 3 if len(calls) == 3 else 4


def refuse_number(calls, m):
    """Raises BadNumber for what is not a number of classes."""
    if not is_whole(m, 1, most_classes(calls)):
        raise BadNumber(m)


def all_sortings(tests, m):
    """The list of all sortings by m; Long if they are too many."""
    found = first_sortings(tests, m)
    if len(found) > MOST_SORTINGS:
        raise Long(MOST_SORTINGS)
    return found


def first_sortings(tests, m):
    """The list of the sortings by m, and of one too many at the most."""
    sorter = Sorter(Tree(tests), m)
    found = []
    classes = sorter.advance()
    while classes is not None and len(found) <= MOST_SORTINGS:
        found.append(classes)
        classes = sorter.advance()
    return found


def is_sorting(tree, m, value):
    """Whether any value is the tuple of the classes of all nodes by a sorting by m."""
    if not isinstance(value, tuple) or len(value) != len(tree.nodes):
        return False
    if not all([is_whole(place, 0, m - 1) for place in value]):
        return False
    # Each class is there already, or it is the next one.
    many = 0
    for place in value:
        if place > many:
            return False
        many = max(many, place + 1)
    rows = {}
    for at in range(1, len(value)):
        told = (tree.replies[at], value[at])
        if rows.setdefault((value[tree.parents[at]], tree.steps[at]), told) != told:
            return False
    return True


def text_with(tree, classes, answer):
    """The text of a device that comes of a sorting; rows that no node tells have this answer."""
    return text_by(tree, classes, [[answer] * tree.width for _ in range(max(classes) + 1)])


def text_by(tree, classes, spare):
    """The text of a device that comes of a sorting; rows that no node tells are answered as spare has it."""
    rows = [[(answer, 0) for answer in answers] for answers in spare]
    for at in range(1, len(classes)):
        rows[classes[tree.parents[at]]][tree.steps[at]] = (tree.replies[at], classes[at])
    return spelled(tree.tests.calls, tree.tests.answers, rows)
