"""Which rows are to blame for tests that fail."""

from toldboxes.choosing import refuse_menu
from toldboxes.errors import BadNumber
from toldboxes.forms import least
from toldboxes.likeness import refuse_words
from toldboxes.lots import agreeing_version, fillings, refuse_lot, versions_by
from toldboxes.words import is_whole


def blamed(device, tests, many):
    """The least tuples of at most so many rows by which some version agrees with all tests."""
    refuse_words(device, tests)
    refuse_many(many)
    if mends(device, (), tests):
        return ((),)
    rows = sorted([(state, call) for state in device.states for call in device.calls])
    single = [row for row in rows if mends(device, (row,), tests)]
    found = [(row,) for row in single]
    if many == 2:
        others = [row for row in rows if row not in single]
        pairs = [(one, other) for at, other in enumerate(others) for one in others[:at]]
        found.extend([pair for pair in pairs if mends(device, pair, tests)])
    return tuple(sorted(found))


def mended(device, tests, lot):
    """A version by the lot that agrees with all tests, if there is one."""
    refuse_words(device, tests)
    refuse_lot(device, lot)
    found = versions_by(device, lot, tests.rows)
    return ("device", found[0].text) if found else ("none",)


def shows_mended(device, tests, lot, value):
    """Whether any value is such a result of mended."""
    refuse_words(device, tests)
    refuse_lot(device, lot)
    if not isinstance(value, tuple) or len(value) not in (1, 2):
        return False
    if len(value) == 1:
        return value[0] == "none" and not mends(device, lot, tests)
    return value[0] == "device" and agreeing_version(device, lot, tests, value[1]) is not None


def halving(device, tests, many, menu):
    """The number of the first walk by which the fewest suspects can be left at the most, and how many these are."""
    refuse_words(device, tests)
    refuse_many(many)
    refuse_menu(menu, device.calls)
    suspects = all_suspects(device, tests, many)
    left = [most_alike([suspect.heard(walk) for suspect in suspects]) for walk in menu]
    return left.index(min(left)), min(left)


def refuse_many(many):
    """Raises BadNumber for what is not a number of rows to blame."""
    if not is_whole(many, 1, 2):
        raise BadNumber(many)


def mends(device, lot, tests):
    """Whether some version by the lot, which may be (), agrees with all tests."""
    return len(fillings(device, lot, tests.rows)) > 0


def all_suspects(device, tests, many):
    """The list of the least forms of the versions by the rows that are blamed, each one once."""
    found = {}
    for lot in blamed(device, tests, many):
        for version in versions_by(device, lot, tests.rows):
            form = least(version)
            found[form.text] = form
    return list(found.values())


def most_alike(heard):
    """How often that stands in a list which stands there most often; 0 if there is nothing."""
    return max([heard.count(answers) for answers in heard], default=0)
