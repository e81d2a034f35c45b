"""Rows of which only some are known, read as those of a device are."""

from toldboxes.forms import spelled


class Known:
    """Rows (answer, class) by (class, call); class 0 is the one in which it begins."""

    def __init__(self, rows):
        self._rows = rows

    def row(self, place, call):
        """What is answered in this class, and the class behind it; None for both where the row is not known."""
        return self._rows.get((place, call), (None, None))

    def gone(self, walk):
        """The answers to the calls of the walk, and the class behind it; None from the first row that is not known."""
        place = 0
        answers = []
        for call in walk:
            answer, place = self.row(place, call)
            answers.append(answer)
        return tuple(answers), place


def rows_known(tree, classes):
    """The rows of the classes of a sorting that nodes tell."""
    calls = tree.tests.calls
    rows = {}
    for at in range(1, len(classes)):
        rows[(classes[tree.parents[at]], calls[tree.steps[at]])] = (tree.replies[at], classes[at])
    return rows


def filled(calls, answers, rows):
    """The text of a device with these rows, a state for each class; what is not known is answered anyhow."""
    many = 1 + max([goal for _, goal in list(rows.values())], default=0)
    spare = (answers[0], 0)
    return spelled(calls, answers, [[rows.get((place, call), spare) for call in calls] for place in range(many)])
