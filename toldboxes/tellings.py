"""Tellings: tests some answers of which were told wrong."""

from toldboxes.devices import read_device
from toldboxes.errors import BadNumber, BadTellings, Many
from toldboxes.known import Known, filled
from toldboxes.likeness import meet, met, refuse_words, same_words
from toldboxes.records import HEADS, MOST_NODES, MOST_TESTS, answers_of, text_of_tests, walk_of
from toldboxes.telling import refuse_devices
from toldboxes.words import in_sequence, is_same, is_whole, longest_of, read_heads, read_rows

MOST_LIES = 9
MOST_STATES = 2


class Tellings:
    """Rows of one device that may quarrel, read from their text."""

    def __init__(self, text):
        if not isinstance(text, str):
            raise BadTellings(0)
        lines = text.split("\n")
        heads, bad = read_heads(lines, HEADS)
        if bad > 0:
            raise BadTellings(bad)
        self.text = text
        self.calls, self.answers = heads
        self.rows, bad = read_rows(lines, "told", MOST_TESTS, self.calls, self.answers)
        if bad > 0:
            raise BadTellings(bad)

    def __len__(self):
        return len(self.rows)

    def __eq__(self, other):
        return isinstance(other, Tellings) and self.text == other.text


def wrongs(device, tellings):
    """How many of all answers told are otherwise than those that the device gives."""
    refuse_words(device, tellings)
    return sum([wrongs_in(device, row) for row in tellings.rows])


def nearest(devices, tellings):
    """The number of the first device with the least wrongs, and how many these are."""
    refuse_devices(devices)
    many = [wrongs(device, tellings) for device in devices]
    return many.index(min(many)), min(many)


def voted(tellings):
    """The text of the tests that most rows tell, or the first node at which the votes are even."""
    walks, many = longest_of([walk_of(row) for row in tellings.rows], tellings.calls)
    if many > MOST_NODES:
        raise Many(MOST_NODES)
    told = {(): ()}
    for node in nodes_of(walks, tellings.calls):
        counts = votes(tellings, node, told[node[:-1]])
        if counts.count(max(counts)) > 1:
            return "even", node
        told[node] = told[node[:-1]] + (tellings.answers[counts.index(max(counts))],)
    rows = [tuple(zip(walk, told[walk])) for walk in walks]
    return "tests", text_of_tests(tellings.calls, tellings.answers, rows)


def stands(device, tellings, lies):
    """Whether so few answers were told wrong by this device, and by no other one of one or two states."""
    many = wrongs(device, tellings)
    if not is_whole(lies, 0, MOST_LIES):
        raise BadNumber(lies)
    if many > lies:
        return "wrong", many
    text = other_text(device, tellings, lies)
    return ("stands",) if text is None else ("falls", text)


def shows_stands(device, tellings, lies, value):
    """Whether any value is such a result of stands."""
    found = stands(device, tellings, lies)
    if found[0] != "falls":
        return is_same(value, found)
    if not isinstance(value, tuple) or len(value) != 2 or value[0] != "falls":
        return False
    return is_other(device, tellings, lies, value[1])


def wrongs_in(device, row):
    """How many answers of a row are otherwise than those that the device gives."""
    heard = device.heard(walk_of(row))
    return len([reply for reply, answer in zip(heard, answers_of(row)) if reply != answer])


def nodes_of(walks, calls):
    """All nodes of these walks but (), in sequence."""
    nodes = {walk[:many]: True for walk in walks for many in range(1, len(walk) + 1)}
    return in_sequence(list(nodes), calls)


def votes(tellings, node, answers):
    """How many rows vote for each answer at a node: such as go through it and told these answers ahead of it."""
    last = len(node) - 1
    rows = [row for row in tellings.rows if walk_of(row)[:last + 1] == node and answers_of(row)[:last] == answers]
    heard = [answers_of(row)[last] for row in rows]
    return [heard.count(answer) for answer in tellings.answers]


def is_other(device, tellings, lies, text):
    """Whether any value is the text of a small device, not alike with this one, that has at most so many wrongs."""
    other = read_device(text)
    if other is None or len(other) > MOST_STATES or not same_words(device, other):
        return False
    return met(device, other)[1] is not None and wrongs(other, tellings) <= lies


def other_text(device, tellings, lies):
    """The text of such a device; None if there is none."""
    steps = steps_of(tellings)
    waiting = [({}, [0], 0)]
    while waiting:
        rows, places, many = waiting.pop()
        places, many = gone_on(steps, rows, places, many, lies)
        if many > lies:
            continue
        if len(places) > len(steps):
            text = unlike_text(device, rows)
            if text is not None:
                return text
            continue
        parent, call, _ = steps[len(places) - 1]
        for answer in tellings.answers:
            for goal in range(MOST_STATES):
                waiting.append(({**rows, (places[parent], call): (answer, goal)}, places, many))
    return None


def steps_of(tellings):
    """For each node but (), in sequence: the number of its parent, its call, and the wrongs that each answer has."""
    nodes = nodes_of([walk_of(row) for row in tellings.rows], tellings.calls)
    numbers = {node: at + 1 for at, node in enumerate(nodes)}
    steps = []
    for node in nodes:
        last = len(node) - 1
        heard = [answers_of(row)[last] for row in tellings.rows if walk_of(row)[:last + 1] == node]
        many = {answer: len(heard) - heard.count(answer) for answer in tellings.answers}
        steps.append((numbers.get(node[:-1], 0), node[-1], many))
    return steps


def gone_on(steps, rows, places, many, lies):
    """The states at the nodes up to the first one whose row is not known, and how many wrongs there are by then.

    It breaks off where there are more wrongs than lies.
    """
    found = list(places)
    while len(found) <= len(steps) and many <= lies:
        parent, call, wrong_by = steps[len(found) - 1]
        answer, goal = rows.get((found[parent], call), (None, None))
        if answer is None:
            return found, many
        found.append(goal)
        many += wrong_by[answer]
    return found, many


def unlike_text(device, rows):
    """The text of a device with these rows that is not alike with this one; None if all such ones are."""
    known = Known(rows)
    walk = meet(device, device.states[0], known, 0)[1]
    if walk is None:
        return None
    place = known.gone(walk[:-1])[1]
    if known.row(place, walk[-1])[0] is not None:
        return filled(device.calls, device.answers, rows)
    own = device.row(device.behind(walk[:-1]), walk[-1])[0]
    others = [answer for answer in device.answers if answer != own]
    return filled(device.calls, device.answers, {**rows, (place, walk[-1]): (others[0], 0)})
