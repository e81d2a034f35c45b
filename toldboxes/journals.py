"""Journals: what was done on a bench, line by line."""

from toldboxes.benches import Bench
from toldboxes.errors import BadBench, BadJournal, BoxError
from toldboxes.words import FIGURES

LINES_OF_BENCH = 3


def journal(bench):
    """The text of the bench, and a line for each deed that stands."""
    return "\n".join([bench.text, "deeds"] + bench.deeds())


def read_journal(text):
    """The bench on which this was done."""
    if not isinstance(text, str):
        raise BadJournal(0)
    lines = text.split("\n")
    bench = read_bench_of(lines)
    if lines[LINES_OF_BENCH:LINES_OF_BENCH + 1] != ["deeds"]:
        raise BadJournal(LINES_OF_BENCH + 1)
    for at in range(LINES_OF_BENCH + 1, len(lines)):
        if not is_done(bench, lines[at]):
            raise BadJournal(at + 1)
    return bench


def read_bench_of(lines):
    """The bench of the first lines of a journal."""
    try:
        return Bench("\n".join(lines[:LINES_OF_BENCH]))
    except BadBench as bad:
        raise BadJournal(bad.value) from None


def is_done(bench, line):
    """Does what a line tells, if it tells a deed; whether it does, and the bench does not refuse it."""
    deed = read_deed(line)
    if deed is None:
        return False
    try:
        do_deed(bench, *deed)
    except BoxError:
        return False
    return True


def read_deed(line):
    """The word and the test or the number of a line that has the form of a deed; None for other lines."""
    words = line.split(" ")
    if words[0] == "tell":
        pairs = tuple(zip(words[1::2], words[2::2]))
        is_whole_row = len(pairs) > 0 and len(words) == 1 + 2 * len(pairs) and "" not in words
        return ("tell", pairs) if is_whole_row else None
    if words[0] in ("drop", "limit") and len(words) == 2 and is_integer(words[1]):
        return words[0], int(words[1])
    return None


def is_integer(word):
    """Whether a string is an integer as Python writes it."""
    figures = word[1:] if word.startswith("-") else word
    if not figures or not all([sign in FIGURES for sign in figures]):
        return False
    return word == "0" or figures[0] != "0"


def do_deed(bench, word, value):
    """Does on the bench what a line of a journal tells."""
    if word == "tell":
        bench.tell(value)
    elif word == "drop":
        bench.drop(value)
    else:
        bench.limit(value)
