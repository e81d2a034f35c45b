"""Devices: some few states that answer calls."""

from toldboxes.errors import BadDevice, BadWalk, NoAnswer, NoCall, NoState
from toldboxes.words import is_among, is_walk, read_heads

HEADS = (("calls", 1, 3), ("answers", 2, 3), ("states", 1, 4))
MOST_STEPS = 24


class Device:
    """A device, read from its text."""

    def __init__(self, text):
        if not isinstance(text, str):
            raise BadDevice(0)
        lines = text.split("\n")
        heads, bad = read_heads(lines, HEADS)
        if bad > 0:
            raise BadDevice(bad)
        self.text = text
        self.calls, self.answers, self.states = heads
        self._goals = read_goals(lines, self.calls, self.answers, self.states)

    def row(self, state, call):
        """What is answered to the call in this state, and the state in which the device is then."""
        self._ask_for_row(state, call)
        return self._goals[(state, call)]

    def heard(self, walk):
        """The answers to the calls of the walk, from the first state on."""
        return self._gone(walk)[0]

    def behind(self, walk):
        """The state in which the device is behind the walk."""
        return self._gone(walk)[1]

    def begun(self, state):
        """The device that begins in this state."""
        if state not in self:
            raise NoState(state)
        lines = self.text.split("\n")
        others = [name for name in self.states if name != state]
        lines[2] = " ".join(["states", state] + others)
        return Device("\n".join(lines))

    def turned(self, state, call, answer, goal):
        """The device whose row of this state and call has this answer and goal."""
        self._ask_for_row(state, call)
        if not is_among(answer, self.answers):
            raise NoAnswer(answer)
        if goal not in self:
            raise NoState(goal)
        head = f"row {state} {call} "
        lines = [f"{head}{answer} {goal}" if line.startswith(head) else line for line in self.text.split("\n")]
        return Device("\n".join(lines))

    def __len__(self):
        return len(self.states)

    def __contains__(self, value):
        return is_among(value, self.states)

    def __eq__(self, other):
        return isinstance(other, Device) and self.text == other.text

    def _ask_for_row(self, state, call):
        """Raises what is due if there is no such row."""
        if state not in self:
            raise NoState(state)
        if not is_among(call, self.calls):
            raise NoCall(call)

    def _gone(self, walk):
        """What is heard by the walk, and the state behind it."""
        if not is_walk(walk, self.calls, 0, MOST_STEPS):
            raise BadWalk(walk)
        state = self.states[0]
        answers = []
        for call in walk:
            answer, state = self._goals[(state, call)]
            answers.append(answer)
        return tuple(answers), state


def read_goals(lines, calls, answers, states):
    """The dict of (answer, goal) by (state, call), from the lines behind the first three."""
    goals = {}
    for at in range(len(HEADS), len(lines)):
        words = lines[at].split(" ")
        if not is_line_of_row(words, calls, answers, states) or (words[1], words[2]) in goals:
            raise BadDevice(at + 1)
        goals[(words[1], words[2])] = (words[3], words[4])
    if len(goals) < len(states) * len(calls):
        raise BadDevice(len(lines) + 1)
    return goals


def is_line_of_row(words, calls, answers, states):
    """Whether the words of a line tell a row of these states."""
    if len(words) != 5 or words[0] != "row":
        return False
    return words[1] in states and words[2] in calls and words[3] in answers and words[4] in states


def read_device(text):
    """The device of this text, for any value; None if it is none."""
    try:
        return Device(text)
    except BadDevice:
        return None
