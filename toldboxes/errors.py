"""All errors: each one keeps what is told of it as its value."""


class BoxError(ValueError):
    """What all errors of this package have in common."""

    def __init__(self, value):
        self.value = value


class BadDevice(BoxError):
    """A text is no device: the number of the first line that cannot stand, 0 for what is no string."""


class NoState(BoxError):
    """What was handed in is not the name of a state."""


class NoCall(BoxError):
    """What was handed in is not a call."""


class NoAnswer(BoxError):
    """What was handed in is not an answer."""


class BadWalk(BoxError):
    """What was handed in is not a walk of these calls."""


class OtherCalls(BoxError):
    """Two things do not have the same calls and answers in the same sequence: the second one."""


class BadTests(BoxError):
    """A text is no tests: the number of the first line that cannot stand, 0 for what is no string."""


class Quarrel(BoxError):
    """Two tests quarrel: their numbers."""


class Many(BoxError):
    """There are more nodes than may be: how many may be."""


class NoNode(BoxError):
    """What was handed in is not a node."""


class BadTest(BoxError):
    """What was handed in is not a test of these calls and answers."""


class Full(BoxError):
    """There are as many tests as may be: how many these are."""


class NoTest(BoxError):
    """What was handed in is not the number of a test."""


class BadWalks(BoxError):
    """What was handed in is not a tuple of walks that can be tested."""


class BadNumber(BoxError):
    """What was handed in is not a number of the kind that is asked for."""


class Long(BoxError):
    """There are more sortings than are gone through: how many may be."""


class Against(BoxError):
    """A device does not agree with tests: the number of the first one of these."""


class Few(BoxError):
    """So many states are less than the least form has: how many it has."""


class Wide(BoxError):
    """More would be told than may be: the number that section 11 or 22 names."""


class BadMenu(BoxError):
    """What was handed in is not a menu."""


class BadLot(BoxError):
    """What was handed in is not a lot of rows."""


class NotLeast(BoxError):
    """A device has more states than its least form: the device."""


class BadDevices(BoxError):
    """What was handed in is not a tuple of devices with the same calls and answers."""


class BadLog(BoxError):
    """What was handed in is not a log."""


class BadTellings(BoxError):
    """A text is no tellings: the number of the first line that cannot stand, 0 for what is no string."""


class BadWatch(BoxError):
    """A text is no watch: the number of the first line that cannot stand, 0 for what is no string."""


class Unfit(BoxError):
    """A part does not go with the others: the part."""


class BadBench(BoxError):
    """A text is no bench: the number of the first line that cannot stand, 0 for what is no string."""


class Contrary(BoxError):
    """No device would agree any more: the cases that show it."""


class NothingToUndo(BoxError):
    """No deed stands that can be taken back."""


class NothingToRedo(BoxError):
    """No deed was taken back that can be done again."""


class NoTrial(BoxError):
    """There is no block that can be kept."""


class BadJournal(BoxError):
    """A text is no journal: the number of the first line that is wrong, 0 for what is no string."""


class BadLine(BoxError):
    """What was handed in is not a line that a desk takes."""
