"""Tests: what was answered to calls from the first state on."""

from toldboxes.devices import read_device
from toldboxes.errors import BadTest, BadTests, BadWalks, Full, Many, NoNode, NoTest, Quarrel
from toldboxes.likeness import refuse_words, same_words
from toldboxes.words import MOST_PAIRS, in_sequence, is_row, is_walk, is_whole, line_of, read_heads, read_rows

HEADS = (("calls", 1, 3), ("answers", 2, 3))
MOST_TESTS = 60
MOST_NODES = 200


class Tests:
    """Tests of one device, read from their text."""

    def __init__(self, text):
        if not isinstance(text, str):
            raise BadTests(0)
        lines = text.split("\n")
        heads, bad = read_heads(lines, HEADS)
        if bad > 0:
            raise BadTests(bad)
        self.text = text
        self.calls, self.answers = heads
        self.rows, bad = read_rows(lines, "test", MOST_TESTS, self.calls, self.answers)
        if bad > 0:
            raise BadTests(bad)
        refuse_quarrels(self.rows)
        self.walks = tuple([walk_of(row) for row in self.rows])
        self._told = answers_told(self.rows)
        if len(self._told) > MOST_NODES:
            raise Many(MOST_NODES)
        self.nodes = tuple(in_sequence(list(self._told), self.calls))

    def told(self, node):
        """The answers to the calls of the node."""
        if node not in self:
            raise NoNode(node)
        return self._told[node]

    def more(self, row):
        """The tests with this one behind them."""
        if not is_row(row, self.calls, self.answers, 1, MOST_PAIRS):
            raise BadTest(row)
        if len(self.rows) == MOST_TESTS:
            raise Full(MOST_TESTS)
        return Tests(self.text + "\n" + line_of("test", row))

    def without(self, number):
        """The tests without the one that has this number."""
        if not is_whole(number, 0, len(self.rows) - 1):
            raise NoTest(number)
        lines = self.text.split("\n")
        del lines[len(HEADS) + number]
        return Tests("\n".join(lines))

    def __len__(self):
        return len(self.rows)

    def __contains__(self, value):
        return is_walk(value, self.calls, 0, MOST_PAIRS) and value in self._told

    def __eq__(self, other):
        return isinstance(other, Tests) and self.text == other.text


def refuse_quarrels(rows):
    """Raises Quarrel for the first test that quarrels with one ahead of it."""
    for other in range(len(rows)):
        for one in range(other):
            if do_quarrel(rows[one], rows[other]):
                raise Quarrel((one, other))


def do_quarrel(one, other):
    """Whether two tests begin with the same calls, and only the last one of them is answered otherwise."""
    for (call, answer), (asked_too, reply) in zip(one, other):
        if call != asked_too:
            return False
        if answer != reply:
            return True
    return False


def answers_told(rows):
    """The dict of the answers by nodes."""
    told = {(): ()}
    for row in rows:
        walk = walk_of(row)
        answers = answers_of(row)
        for many in range(1, len(row) + 1):
            told[walk[:many]] = answers[:many]
    return told


def walk_of(row):
    """The calls of a test."""
    return tuple([pair[0] for pair in row])


def answers_of(row):
    """The answers of a test."""
    return tuple([pair[1] for pair in row])


def text_of_tests(calls, answers, rows):
    """The text of the tests with these calls and answers, and these rows."""
    heads = [" ".join(["calls", *calls]), " ".join(["answers", *answers])]
    return "\n".join(heads + [line_of("test", row) for row in rows])


def asked(device, walks):
    """The tests with these walks, as the device answers them."""
    if not are_walks(walks, device.calls):
        raise BadWalks(walks)
    rows = [tuple(zip(walk, device.heard(walk))) for walk in walks]
    return Tests(text_of_tests(device.calls, device.answers, rows))


def are_walks(value, calls):
    """Whether any value is a tuple of walks that can be tests together."""
    if not isinstance(value, tuple) or len(value) > MOST_TESTS:
        return False
    return all([is_walk(walk, calls, 1, MOST_PAIRS) for walk in value])


def wrong(device, tests):
    """The numbers of the tests with which the device does not agree."""
    refuse_words(device, tests)
    return tuple([at for at, row in enumerate(tests.rows) if device.heard(walk_of(row)) != answers_of(row)])


def agreeing(text, tests, most):
    """The device of this text, for any value, if it has at most so many states and agrees with the tests, or None."""
    device = read_device(text)
    if device is None or len(device) > most or not same_words(device, tests):
        return None
    return None if wrong(device, tests) else device


def apart(tests, one, other):
    """The first walk that both nodes heard, and whose last call was answered otherwise; None if there is none."""
    for node in (one, other):
        if node not in tests:
            raise NoNode(node)
    walks = [()]
    at = 0
    while at < len(walks):
        for call in tests.calls:
            walk = walks[at] + (call,)
            if one + walk in tests and other + walk in tests:
                if tests.told(one + walk)[-1] != tests.told(other + walk)[-1]:
                    return walk
                walks.append(walk)
        at += 1
    return None
