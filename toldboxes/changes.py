"""What must be tested again behind a change of some rows."""

from toldboxes.choosing import choices, chosen, refuse_menu
from toldboxes.forms import least
from toldboxes.likeness import is_heard_otherwise, met
from toldboxes.lots import agreeing_version, refuse_lot, versions_by
from toldboxes.proving import refuse_tests
from toldboxes.records import asked
from toldboxes.suites import price_of, refuse_reset


def versions(device, lot):
    """How many unlike versions the device has by the lot."""
    refuse_lot(device, lot)
    return len({least(version).text for version in versions_by(device, lot, ())})


def changed(device, lot, tests):
    """Whether each version by the lot that agrees with the tests is alike with device, or one that is not."""
    found = passing_version(device, lot, tests)
    return ("proved",) if found is None else ("passes", *found)


def shows_changed(device, lot, tests, value):
    """Whether any value is such a result of changed."""
    found = passing_version(device, lot, tests)
    if not isinstance(value, tuple) or len(value) not in (1, 3):
        return False
    if len(value) == 1:
        return value[0] == "proved" and found is None
    version = agreeing_version(device, lot, tests, value[1])
    return value[0] == "passes" and version is not None and is_heard_otherwise(device, version, value[2])


def useful(device, lot, tests):
    """The numbers of the tests with which some version does not agree."""
    refuse_lot(device, lot)
    refuse_tests(device, tests)
    # The first row of the lot by which a test goes is answered otherwise by some version.
    return tuple([at for at, walk in enumerate(tests.walks) if goes_by(device, lot, walk)])


def cheapest_change(device, lot, menu, reset):
    """The first choice that proves the device among its versions by the lot."""
    refuse_lot(device, lot)
    refuse_menu(menu, device.calls)
    refuse_reset(reset)
    found = passing_version(device, lot, asked(device, menu))
    if found is not None:
        return "passes", *found
    heard = {walks_heard(device, version, menu) for version in unlike_versions(device, lot, ())}
    needed = sorted(heard)
    for choice in choices(menu, reset):
        if all([any([number in choice for number in numbers]) for numbers in needed]):
            return "choice", price_of(chosen(menu, choice), reset), choice


def unlike_versions(device, lot, tests):
    """The list of the versions that agree with these rows of tests and are not alike with device."""
    return [version for version in versions_by(device, lot, tests) if met(device, version)[1] is not None]


def passing_version(device, lot, tests):
    """What changed raises; and the text and the walk of a version that passes, None if there is none."""
    refuse_lot(device, lot)
    refuse_tests(device, tests)
    found = unlike_versions(device, lot, tests.rows)
    return (found[0].text, met(device, found[0])[1]) if found else None


def walks_heard(device, version, menu):
    """The numbers of the walks of a menu that the version answers otherwise than device."""
    return tuple([number for number, walk in enumerate(menu) if version.heard(walk) != device.heard(walk)])


def goes_by(device, lot, walk):
    """Whether the walk goes by a row of the lot."""
    return any([(device.behind(walk[:at]), walk[at]) in lot for at in range(len(walk))])
