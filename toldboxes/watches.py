"""Watches, which look on step by step, and break if something comes that must not come."""

from toldboxes.devices import MOST_STEPS
from toldboxes.errors import BadLog, BadWatch
from toldboxes.words import is_among, is_row, read_heads

HEADS = (("calls", 1, 3), ("answers", 2, 3), ("marks", 1, 4))
BROKEN = "broken"


class Watch:
    """A watch, read from its text."""

    def __init__(self, text):
        if not isinstance(text, str):
            raise BadWatch(0)
        lines = text.split("\n")
        heads, bad = read_heads(lines, HEADS)
        if bad > 0:
            raise BadWatch(bad)
        self.text = text
        self.calls, self.answers, self.marks = heads
        if BROKEN in self.marks:
            raise BadWatch(len(HEADS))
        self._goals = read_steps(lines, self.calls, self.answers, self.marks)

    def behind(self, log):
        """The mark behind these steps, from the first one on, or broken."""
        if not is_row(log, self.calls, self.answers, 0, MOST_STEPS):
            raise BadLog(log)
        mark = self.marks[0]
        for call, answer in log:
            mark = self.step(mark, call, answer)
        return mark

    def step(self, mark, call, answer):
        """The mark to which a step leads, or broken; mark may also be broken."""
        return self._goals.get((mark, call, answer), mark)

    def __len__(self):
        return len(self.marks)

    def __contains__(self, value):
        return is_among(value, self.marks)

    def __eq__(self, other):
        return isinstance(other, Watch) and self.text == other.text


def read_steps(lines, calls, answers, marks):
    """The dict of goals by (mark, call, answer), from the lines behind the first three."""
    goals = {}
    for at in range(len(HEADS), len(lines)):
        words = lines[at].split(" ")
        if not is_line_of_step(words, calls, answers, marks) or (words[1], words[2], words[3]) in goals:
            raise BadWatch(at + 1)
        goals[(words[1], words[2], words[3])] = words[4]
    return goals


def is_line_of_step(words, calls, answers, marks):
    """Whether the words of a line tell a step of these marks."""
    if len(words) != 5 or words[0] != "step":
        return False
    return words[1] in marks and words[2] in calls and words[3] in answers and words[4] in marks + (BROKEN,)


def safe(watch):
    """The marks from which no steps whatever lead to broken."""
    return tuple([mark for mark in watch.marks if way_to_broken(watch, mark) is None])


def verdict(watch, log):
    """Whether the watch is broken behind the log, or safe for ever, or held so far."""
    mark = watch.behind(log)
    if mark == BROKEN:
        return "broken"
    return "held" if way_to_broken(watch, mark) is not None else "safe"


def way_to_broken(watch, first):
    """Steps, as few as can be, by which the watch is broken, from a mark or broken on; None if there are none."""
    steps = [(call, answer) for call in watch.calls for answer in watch.answers]
    found = [first]
    logs = [()]
    at = 0
    while at < len(found):
        if found[at] == BROKEN:
            return logs[at]
        for call, answer in steps:
            goal = watch.step(found[at], call, answer)
            if goal not in found:
                found.append(goal)
                logs.append(logs[at] + ((call, answer),))
        at += 1
    return None
