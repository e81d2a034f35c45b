"""A bench as the tests see it: a book of deeds, from which all that a bench tells is worked out anew."""

import itertools
import re

from looks import (
    Plain, Said, calls_of, first_parting, is_unlike, right_alike_end, right_cases, right_device, right_walk, rows_agreeing,
    same, someone_passes, stands_once,
)


def bad_bench(text):
    """The number that BadBench tells; None if the text is a bench."""
    if type(text) is not str:
        return 0
    lines = text.split('\n')
    if not stands_once(lines[0], 'calls', 1, 3):
        return 1
    if len(lines) < 2 or not stands_once(lines[1], 'answers', 2, 3):
        return 2
    numbers = '123' if len(calls_of(lines[0])) == 3 else '1234'
    if len(lines) < 3 or not re.fullmatch(f'most [{numbers}]', lines[2]):
        return 3
    return 4 if len(lines) > 3 else None


class Book:
    """What was done on a bench, in lines, and what was taken back."""

    def __init__(self, text):
        assert bad_bench(text) is None, text
        self.lines = text.split('\n')
        self.calls, self.answers = [calls_of(line) for line in self.lines[:2]]
        self.deeds = []
        self.undone = []

    def stand(self):
        """The lines of the tests that stand, and the most states, by going through all deeds."""
        tests, most = [], int(self.lines[2].split(' ')[1])
        for deed in self.deeds:
            word, rest = deed.split(' ', 1)
            if word == 'tell':
                tests.append(f'test {rest}')
            elif word == 'drop':
                del tests[int(rest)]
            else:
                most = int(rest)
        return tests, most

    def text(self):
        """The text of the tests that stand."""
        return '\n'.join(self.lines[:2] + self.stand()[0])

    def most(self):
        return self.stand()[1]

    def journal(self):
        return '\n'.join(self.lines + ['deeds'] + self.deeds)

    def told(self, row):
        """The name and the value of the error that is due if this is told; None if it is done."""
        if not is_row(row, self.calls, self.answers):
            return 'BadTest', row
        tests, most = self.stand()
        if len(tests) == 60:
            return 'Full', 60
        more = tests + [line_of('test', row)]
        numbers = first_quarrel(more)
        if numbers is not None:
            return 'Quarrel', numbers
        said = Said('\n'.join(self.lines[:2] + more))
        if len(said.nodes) > 200:
            return 'Many', 200
        if not someone_agrees(said, most):
            return 'Contrary', said
        return None

    def dropped(self, number):
        if type(number) is not int or not 0 <= number < len(self.stand()[0]):
            return 'NoTest', number
        return None

    def limited(self, m):
        if type(m) is not int or not 1 <= m <= (3 if len(self.calls) == 3 else 4):
            return 'BadNumber', m
        said = Said(self.text())
        return None if someone_agrees(said, m) else ('Contrary', said)

    def did(self, deed):
        self.deeds.append(deed)
        self.undone = []

    def undo(self):
        self.undone.append(self.deeds.pop())

    def redo(self):
        self.deeds.append(self.undone.pop())

    def kept(self):
        """What has to be kept to come back here."""
        return list(self.deeds), list(self.undone)

    def back(self, kept):
        self.deeds, self.undone = list(kept[0]), list(kept[1])

    def copy(self):
        other = Book('\n'.join(self.lines))
        other.back(self.kept())
        return other


def is_row(value, calls, answers):
    if type(value) is not tuple or not 1 <= len(value) <= 12:
        return False
    for pair in value:
        if type(pair) is not tuple or len(pair) != 2 or not all(type(word) is str for word in pair):
            return False
        if pair[0] not in calls or pair[1] not in answers:
            return False
    return True


def line_of(word, row):
    return ' '.join([word, *itertools.chain(*row)])


def first_quarrel(lines):
    """The numbers of the tests that quarrel, as Tests tells them; None if none do."""
    rows = []
    for line in lines:
        words = line.split(' ')[1:]
        rows.append(list(zip(words[::2], words[1::2])))
    for other in range(len(rows)):
        for one in range(other):
            for (call, answer), (word, reply) in zip(rows[one], rows[other]):
                if call != word:
                    break
                if answer != reply:
                    return one, other
    return None


def someone_agrees(said, m):
    return next(rows_agreeing(said, m), None) is not None


def right_known(said, m, value):
    """Whether what known tells is right by itself."""
    if type(value) is not tuple or not value:
        return False
    if same(value[0], 'device') and len(value) == 3:
        device = right_device(said, value[1], m)
        if device is None or value[1] != least_text(device) or someone_passes(device, said, m):
            return False
        return right_cases(said, m, value[2], lambda place, end: right_alike_end(said, device, place, end))
    if not same(value[0], 'open') or len(value) != 4:
        return False
    one, other = [right_device(said, text, m) for text in value[1:3]]
    return one is not None and other is not None and right_walk(one, other, value[3])


def is_known(said, m):
    """Whether all devices of at most m states that agree are alike."""
    first = None
    for rows in rows_agreeing(said, m):
        if first is None:
            places = {(place, call) for place in {0} | {goal for _, goal in rows.values()} for call in said.calls}
            if places - set(rows):
                return False
            states = sorted({place for place, _ in places})
            lines = [f'row p{place} {call} {rows[place, call][0]} p{rows[place, call][1]}' for place, call in sorted(places)]
            first = Plain('\n'.join([' '.join(['calls', *said.calls]), ' '.join(['answers', *said.answers]),
                                     ' '.join(['states', *[f'p{place}' for place in states]])] + lines))
        elif is_unlike(first, rows):
            return False
    return True


def least_text(device):
    """The text of the least form of a plain device."""
    states = [device.states[0]]
    for state in states:
        for call in device.calls:
            goal = device.rows[state, call][1]
            if all(first_parting(device, device, goal, other) is not None for other in states):
                states.append(goal)
    lines = [' '.join(['calls', *device.calls]), ' '.join(['answers', *device.answers]),
             ' '.join(['states', *[f's{at}' for at in range(len(states))]])]
    for at, state in enumerate(states):
        for call in device.calls:
            answer, goal = device.rows[state, call]
            number = next(number for number, other in enumerate(states) if first_parting(device, device, goal, other) is None)
            lines.append(f's{at} {call} {answer} s{number}')
    return '\n'.join(lines[:3] + [f'row {line}' for line in lines[3:]])


def look_at_next(text, m, menu):
    """What next_walk tells; None if it is too long."""
    said = Said(text)
    most = []
    for walk in menu:
        answers = [said.told[walk[:many]] for many in range(1, len(walk))]
        lines = [line_of('test', zip(walk, answers + [answer])) for answer in said.answers]
        most.append([sum(1 for _ in itertools.islice(rows_agreeing(Said(f'{text}\n{line}'), m), 601)) for line in lines])
    if max(map(max, most)) > 600:
        return None
    most = [max(numbers) for numbers in most]
    return most.index(min(most)), min(most)
