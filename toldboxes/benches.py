"""A bench at which tests of one device are told one by one."""

from toldboxes.choosing import next_walk
from toldboxes.devices import Device
from toldboxes.errors import BadBench, Contrary, NothingToRedo, NothingToUndo, NoTrial
from toldboxes.forms import least
from toldboxes.judging import judged
from toldboxes.proving import proves
from toldboxes.records import HEADS, Tests
from toldboxes.sortings import fits, most_classes
from toldboxes.words import line_of, read_heads


class Trial:
    """A block at a bench: behind it the bench is as it was ahead of it, unless it is kept and no error leaves it."""

    def __init__(self, bench):
        self.bench = bench
        # None until the block is kept: all that __exit__ may ask of an attribute is whether it is None.
        self.kept = None
        self.ahead = None
        self.outer = None

    def __enter__(self):
        bench = self.bench
        self.ahead = bench.copy()
        self.outer = bench.block
        bench.block = self
        return bench

    def __exit__(self, kind, value, trace):
        if kind is not None or self.kept is None:
            self.bench.tests = self.ahead.tests
            self.bench.most = self.ahead.most
            self.bench.done = self.ahead.done
            self.bench.past = self.ahead.past
            self.bench.undone = self.ahead.undone
        self.bench.block = self.outer


class Bench:
    """What is told of a device that nobody knows, read from its text at first, and changed by deeds.

    past has, for each deed that stands, its line, and the tests and the most states ahead of it; undone has, for each
    one that was taken back and can be done again, its line, and the tests and the most states behind it.
    block is the innermost block, None outside of all blocks.
    """

    def __init__(self, text):
        self.calls, self.answers, self.most = read_bench(text)
        self.text = text
        self.tests = Tests("\n".join(text.split("\n")[:len(HEADS)]))
        self.done = 0
        self.past = ()
        self.undone = ()
        self.block = None

    def tell(self, row):
        """A test was made: it stands behind the others."""
        tests = self.tests.more(row)
        refuse_contrary(tests, self.most)
        self._do(line_of("tell", row), tests, self.most)

    def drop(self, number):
        """The test with this number goes."""
        tests = self.tests.without(number)
        self._do(f"drop {number}", tests, self.most)

    def limit(self, m):
        """The device has at most so many states."""
        refuse_contrary(self.tests, m)
        self._do(f"limit {m}", self.tests, m)

    def sure(self, walk):
        """The answers that are sure to the walk; None if they are open."""
        told = judged(self.tests, self.most, walk)
        return told[1] if told[0] == "always" else None

    def known(self):
        """The least form of the device, with cases, if all that are left are alike; or two that are not, and a walk."""
        form = least(Device(fits(self.tests, self.most)[1]))
        told = proves(form, self.tests, self.most)
        return ("device", form.text, told[1]) if told[0] == "proved" else ("open", form.text, told[1], told[2])

    def next(self, menu):
        """The number of the best next walk of the menu, and how many sortings are left by it at the most."""
        return next_walk(self.tests, self.most, menu)

    def undo(self):
        """Takes the last deed back."""
        if not self.past:
            raise NothingToUndo(None)
        line, tests, most = self.past[-1]
        self.undone = self.undone + ((line, self.tests, self.most),)
        self._hold(self.past[:-1], tests, most)

    def redo(self):
        """Does the deed again that was taken back last."""
        if not self.undone:
            raise NothingToRedo(None)
        line, tests, most = self.undone[-1]
        self.undone = self.undone[:-1]
        self._hold(self.past + ((line, self.tests, self.most),), tests, most)

    def trial(self):
        """A block that leaves nothing behind, unless it is kept."""
        return Trial(self)

    def keep(self):
        """The innermost block is kept."""
        block = self.block
        if block is None:
            raise NoTrial(None)
        block.kept = True

    def tried(self, look, *, keep=False):
        """What look returns, called with the bench within a block."""
        with self.trial() as held:
            told = look(held)
            if keep is True:
                held.keep()
        return told

    def copy(self):
        """An independent bench, alike in all things, outside of all blocks."""
        other = Bench(self.text)
        other.undone = self.undone
        other._hold(self.past, self.tests, self.most)
        return other

    def deeds(self):
        """The list of the lines of the deeds that stand."""
        return [deed[0] for deed in self.past]

    def __len__(self):
        return len(self.tests)

    def __contains__(self, value):
        return value in self.tests

    def __eq__(self, other):
        return isinstance(other, Bench) and self.text == other.text and self.deeds() == other.deeds()

    def _do(self, line, tests, most):
        """A new deed: what was taken back is not done again any more."""
        self.undone = ()
        self._hold(self.past + ((line, self.tests, self.most),), tests, most)

    def _hold(self, past, tests, most):
        """These deeds stand, and this is what they led to."""
        self.past = past
        self.tests = tests
        self.most = most
        self.done = len(past)


def read_bench(text):
    """The calls, the answers and the most states of a bench's text."""
    if not isinstance(text, str):
        raise BadBench(0)
    lines = text.split("\n")
    heads, bad = read_heads(lines, HEADS)
    if bad > 0:
        raise BadBench(bad)
    calls, answers = heads
    numbers = [m for m in range(1, most_classes(calls) + 1) if lines[len(HEADS):len(HEADS) + 1] == [f"most {m}"]]
    if not numbers:
        raise BadBench(len(HEADS) + 1)
    if len(lines) > len(HEADS) + 1:
        raise BadBench(len(HEADS) + 2)
    return calls, answers, numbers[0]


def refuse_contrary(tests, m):
    """Raises BadNumber for what is no number m, Contrary if no device of at most m states agrees with the tests."""
    told = fits(tests, m)
    if told[0] == "none":
        raise Contrary(told[1])
