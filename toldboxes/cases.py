"""Sortings of the nodes of tests, one by one, and cases: the papers that go through all of them."""

from toldboxes.words import MOST_PAIRS, is_walk


class Tree:
    """The nodes of tests by their numbers: each one's parent, and the call and the answer that led to it."""

    def __init__(self, tests):
        self.tests = tests
        self.nodes = tests.nodes
        self.numbers = {node: at for at, node in enumerate(tests.nodes)}
        self.width = len(tests.calls)
        # The node () has none of these: what stands there for it is not asked for.
        self.parents = [0] + [self.numbers[node[:-1]] for node in tests.nodes[1:]]
        self.steps = [0] + [tests.calls.index(node[-1]) for node in tests.nodes[1:]]
        self.replies = [""] + [tests.told(node)[-1] for node in tests.nodes[1:]]


class Beginning:
    """What is said of some nodes by the goals of rows: to which class each class goes on at each call.

    classes has the class of each node, None where nothing is said of it; many is how many classes are there.
    first_torn is None, or the numbers of two nodes that are come to by one row and were answered otherwise.
    first_open is None, or the number of the first node of which nothing is said, but of its parent.
    """

    def __init__(self, tree, m, goals, many):
        self.tree = tree
        self.m = m
        self.goals = goals
        self.many = many
        self.classes = [0]
        self.first_torn = None
        self.first_open = None
        self._go_on()

    def parts(self, at):
        """The beginnings by which a node, of which nothing is said but of its parent, is in each class or a new one."""
        row = self.classes[self.tree.parents[at]] * self.tree.width + self.tree.steps[at]
        found = []
        for goal in range(min(self.m, self.many + 1)):
            goals = self.goals[:row] + [goal] + self.goals[row + 1:]
            found.append(Beginning(self.tree, self.m, goals, max(self.many, goal + 1)))
        return found

    def is_open(self, at):
        """Whether nothing is said of a node, but of its parent."""
        return self.classes[at] is None and self.classes[self.tree.parents[at]] is not None

    def class_of(self, value):
        """The class in which any value is; None if it is no node or nothing is said of it."""
        return self.classes[self.tree.numbers[value]] if value in self.tree.tests else None

    def rows_said(self):
        """By (class, call) the answers told there, by nodes of which something is said, and the class of these."""
        rows = {}
        for at in range(1, len(self.classes)):
            if self.classes[at] is not None:
                row = (self.classes[self.tree.parents[at]], self.tree.nodes[at][-1])
                rows.setdefault(row, ([], self.classes[at]))[0].append(self.tree.replies[at])
        return rows

    def _go_on(self):
        """Finds the classes of the nodes behind (); parents stand ahead of the nodes behind them."""
        tree, classes = self.tree, self.classes
        firsts = [None] * len(self.goals)
        for at in range(1, len(tree.nodes)):
            place = classes[tree.parents[at]]
            if place is None:
                classes.append(None)
                continue
            row = place * tree.width + tree.steps[at]
            classes.append(self.goals[row])
            if firsts[row] is None:
                firsts[row] = at
            elif tree.replies[firsts[row]] != tree.replies[at] and self.first_torn is None:
                self.first_torn = (firsts[row], at)
            if self.goals[row] is None and self.first_open is None:
                self.first_open = at


class Sorter:
    """Tells the sortings of tests by a number of classes one behind the other, as they are sorted."""

    def __init__(self, tree, m):
        self._waiting = [first_beginning(tree, m)]

    def advance(self):
        """The list of the classes of all nodes by the next sorting; None if there is no further one."""
        while self._waiting:
            beginning = self._waiting.pop()
            if beginning.first_torn is not None:
                continue
            if beginning.first_open is None:
                return beginning.classes
            self._waiting.extend(beginning.parts(beginning.first_open)[::-1])
        return None


def first_beginning(tree, m):
    """The beginning that says of () alone that it is in class 0."""
    return Beginning(tree, m, [None] * (m * tree.width), 1)


def cases_of(tree, m, end):
    """Cases of the tests by m; end tells, for the classes of a sorting, the end that stands there.

    Where there is no sorting, end may be None: it is not asked for.
    """
    return cases_on(first_beginning(tree, m), end)


def cases_on(beginning, end):
    """Cases for a beginning."""
    nodes = beginning.tree.nodes
    if beginning.first_torn is not None:
        one, other = beginning.first_torn
        return "torn", nodes[one][:-1], nodes[other][:-1], nodes[one][-1:]
    if beginning.first_open is None:
        return end(beginning.classes)
    parts = [cases_on(part, end) for part in beginning.parts(beginning.first_open)]
    return "cases", nodes[beginning.first_open], tuple(parts)


def are_cases(tree, m, value, is_end):
    """Whether any value is cases of the tests by m.

    is_end tells whether a tuple that is not empty is an end for a beginning. It is None where no ends are let.
    """
    return are_cases_on(first_beginning(tree, m), value, is_end)


def are_cases_on(beginning, value, is_end):
    """Whether any value is cases for a beginning."""
    if not isinstance(value, tuple) or len(value) == 0:
        return False
    if value[0] == "torn":
        return is_torn(beginning, value)
    if value[0] != "cases":
        return is_end is not None and is_end(beginning, value)
    if len(value) != 3 or not isinstance(value[2], tuple) or value[1] not in beginning.tree.tests:
        return False
    at = beginning.tree.numbers[value[1]]
    if not beginning.is_open(at):
        return False
    parts = beginning.parts(at)
    if len(parts) != len(value[2]):
        return False
    return all([are_cases_on(part, told, is_end) for part, told in zip(parts, value[2])])


def is_torn(beginning, value):
    """Whether a tuple that begins with the word torn is right for a beginning."""
    if len(value) != 4:
        return False
    _, one, other, walk = value
    tests = beginning.tree.tests
    place = beginning.class_of(one)
    if place is None or place != beginning.class_of(other) or one == other:
        return False
    if not is_walk(walk, tests.calls, 1, MOST_PAIRS) or one + walk not in tests or other + walk not in tests:
        return False
    return tests.told(one + walk)[-1] != tests.told(other + walk)[-1]
