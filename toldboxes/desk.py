"""A desk: a bench that takes lines and answers in strings."""

from toldboxes.errors import BadLine
from toldboxes.journals import do_deed, read_deed, read_journal


class Desk:
    """The bench of a journal; its lines are done at this very bench."""

    def __init__(self, text):
        self.bench = read_journal(text)

    def say(self, line):
        """Does what the line says, and tells the answer."""
        if not isinstance(line, str) or "\n" in line:
            raise BadLine(line)
        deed = read_deed(line)
        if deed is not None:
            do_deed(self.bench, *deed)
            return "done"
        words = line.split(" ")
        if words[0] == "sure" and len(words) > 1 and "" not in words:
            answers = self.bench.sure(tuple(words[1:]))
            return "open" if answers is None else " ".join(answers)
        return answer_to_word(self.bench, line)


def answer_to_word(bench, word):
    """The answer to a line of one word."""
    if word == "undo":
        bench.undo()
        return "done"
    if word == "redo":
        bench.redo()
        return "done"
    if word == "known":
        return "yes" if bench.known()[0] == "device" else "no"
    if word == "most":
        return str(bench.most)
    if word == "tests":
        return str(len(bench))
    raise BadLine(word)
