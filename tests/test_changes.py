"""Points 2, 3 and 13: versions, changed, shows_changed, useful, cheapest_change."""

import itertools
import random
import unittest

from looks import (
    Plain, Said, choices_in_sequence, first_parting, right_version, right_walk, same, unlike_ones, versions_of,
)
from raising import Raising
from toldboxes.changes import changed, cheapest_change, shows_changed, useful, versions
from toldboxes.devices import Device
from toldboxes.errors import Against, BadLot, BadMenu, BadNumber, BoxError, OtherCalls
from toldboxes.proving import proves
from toldboxes.records import Tests, asked
from toldboxes.suites import suite
from values import (
    ENOUGH, FEW, LAMP, MENU, OTHER_HEADS, STEADY, THREE, any_values, bad_lots, bad_menus, random_text, random_walks, renamed,
    some_variants,
)

LOT = (('q', 'a'),)
NONE = Tests('calls a b\nanswers x y')


def some_cases(seed, many, fewest=1):
    """Devices, lots of theirs and tests that agree with them."""
    rnd = random.Random(seed)
    for turn in range(many):
        calls = rnd.sample(['a', 'b', 'c'], rnd.randint(1, 3))
        answers = rnd.sample(['x', 'y', 'z'], 2 if turn % 3 else 3)
        device = Device(random_text(rnd, calls, answers, rnd.randint(fewest, 3)))
        rows = [(state, call) for state in device.states for call in calls]
        lot = tuple(rnd.sample(rows, min(len(rows), rnd.choice((1, 1, 2, 2, 3)))))
        walks = random_walks(rnd, calls, rnd.choice((0, 1, 2, 3, 4, 6, 8)), rnd.choice((3, 6, 12)))
        yield device, lot, asked(device, walks)


def right_passes(device, lot, said, parts):
    version = right_version(device, lot, parts[0]) if len(parts) == 2 else None
    return version is not None and said.agrees(version) and right_walk(device, version, parts[1])


def right_changed(device, lot, said, proved, value):
    if type(value) is not tuple or not value:
        return False
    if same(value[0], 'passes'):
        return right_passes(device, lot, said, value[1:])
    return proved and same(value, ('proved',))


def is_proved(device, lot, said):
    """Whether each version that agrees is alike with the device."""
    return all(first_parting(device, version) is None for version in versions_of(device, lot) if said.agrees(version))


class TestErrors(Raising, unittest.TestCase):
    def test_lots(self):
        for value in bad_lots():
            self.assert_tells(BadLot, value, versions, LAMP, value)
            for tests in (FEW, Tests(OTHER_HEADS[0]), asked(LAMP.begun('q'), (('a',),))):
                self.assert_tells(BadLot, value, changed, LAMP, value, tests)
                self.assert_tells(BadLot, value, shows_changed, LAMP, value, tests, ('proved',))
                self.assert_tells(BadLot, value, useful, LAMP, value, tests)
            for menu in (MENU, ()):
                for reset in (2, -1):
                    self.assert_tells(BadLot, value, cheapest_change, LAMP, value, menu, reset)

    def test_other_calls(self):
        for heads in OTHER_HEADS:
            tests = Tests(heads)
            self.assert_tells(OtherCalls, tests, changed, LAMP, LOT, tests)
            self.assert_tells(OtherCalls, tests, shows_changed, LAMP, LOT, tests, None)
            self.assert_tells(OtherCalls, tests, useful, LAMP, LOT, tests)

    def test_against(self):
        both = Tests('calls a b\nanswers x y\ntest b y\ntest a x a x\ntest a x a x b x')
        for device, tests, number in ((LAMP.begun('q'), FEW, 0), (LAMP, both, 1)):
            self.assert_tells(Against, number, changed, device, LOT, tests)
            self.assert_tells(Against, number, shows_changed, device, LOT, tests, ('proved',))
            self.assert_tells(Against, number, useful, device, LOT, tests)

    def test_menus_and_resets(self):
        for value in bad_menus():
            for reset in (0, 99, -1, 100, None, True):
                self.assert_tells(BadMenu, value, cheapest_change, LAMP, LOT, value, reset)
        bad = [value for value in any_values() if type(value) is not int or not 0 <= value <= 99]
        for value in bad + [100, -1, (), '0', (0,), True, False]:
            self.assert_tells(BadNumber, value, cheapest_change, LAMP, LOT, MENU, value)

    def test_names_of_arguments(self):
        self.assertEqual(versions(device=LAMP, lot=LOT), 3)
        told = changed(device=LAMP, lot=LOT, tests=FEW)
        self.assertIs(shows_changed(device=LAMP, lot=LOT, tests=FEW, value=told), True)
        self.assertEqual(useful(device=LAMP, lot=LOT, tests=FEW), (0,))
        self.assertEqual(cheapest_change(device=LAMP, lot=LOT, menu=MENU, reset=2), ('choice', 5, (1,)))


class TestVersions(unittest.TestCase):
    def test_by_a_look(self):
        counted = set()
        for device, lot, _ in some_cases(1, 60):
            if len(lot) * len(device.states) * len(device.answers) < 20:
                told = versions(device, lot)
                self.assertTrue(same(told, len(unlike_ones(versions_of(Plain(device.text), lot)))))
                counted.add(told)
        self.assertGreater(len(counted), 8)

    def test_as_many_as_can_be(self):
        for device in (LAMP, THREE):
            for lot in ((('q', 'a'), ('p', 'a'), ('p', 'b')), (('u', 'a'), ('v', 'b'), ('w', 'b'))):
                if lot[0][0] in device:
                    expected = len(unlike_ones(versions_of(Plain(device.text), lot)))
                    self.assertEqual({versions(device, way) for way in itertools.permutations(lot)}, {expected})

    def test_greatest_lots(self):
        four = Device(random_text(random.Random(2), ['a', 'b', 'c'], ['x', 'y', 'z'], 4))
        lot = tuple((state, 'a') for state in four.states[:3])
        ways = {}
        for version in versions_of(Plain(four.text), lot):
            heard = tuple(version.heard(walk) for walk in itertools.product('abc', repeat=4))
            ways.setdefault(heard, []).append(version)
        expected = sum(len(unlike_ones(group)) for group in ways.values())
        self.assertEqual(versions(four, lot), expected)
        self.assertGreater(expected, 500)

    def test_states_that_are_not_come_to(self):
        far = Device('calls a\nanswers x y\nstates p q\nrow p a x p\nrow q a y q')
        self.assertEqual(versions(far, (('q', 'a'),)), 1)
        # From p one may come to q, which says y for ever.
        self.assertEqual(versions(far, (('p', 'a'),)), 3)
        self.assertEqual(versions(STEADY, (('s', 'a'), ('s', 'b'))), 4)


class TestChanged(unittest.TestCase):
    def test_by_a_look(self):
        counted = {'proved': 0, 'passes': 0}
        for device, lot, tests in some_cases(3, 220):
            plain, said = Plain(device.text), Said(tests.text)
            told = changed(device, lot, tests)
            proved = is_proved(plain, lot, said)
            self.assertEqual(told[0], 'proved' if proved else 'passes')
            self.assertTrue(right_changed(plain, lot, said, proved, told), told)
            self.assertIs(shows_changed(device, lot, tests, told), True)
            counted[told[0]] += 1
        self.assertGreater(min(counted.values()), 40)

    def test_no_tests_at_all(self):
        self.assertEqual(changed(LAMP, LOT, NONE)[0], 'passes')
        far = Device('calls a\nanswers x y\nstates p q\nrow p a x p\nrow q a y q')
        self.assertEqual(changed(far, (('q', 'a'),), Tests('calls a\nanswers x y')), ('proved',))

    def test_what_proves_among_all_devices_proves_among_versions(self):
        rnd = random.Random(4)
        for turn in range(60):
            calls = rnd.sample(['a', 'b'], rnd.randint(1, 2))
            device = Device(random_text(rnd, calls, ['x', 'y'], rnd.randint(1, 3)))
            if proves(device, suite(device, 0), len(device))[0] != 'proved':
                continue
            rows = [(state, call) for state in device.states for call in calls]
            lot = tuple(rnd.sample(rows, min(len(rows), rnd.randint(1, 3))))
            self.assertEqual(changed(device, lot, suite(device, 0)), ('proved',))

    def test_smaller_lots_and_further_tests(self):
        rnd = random.Random(5)
        proved = 0
        for device, lot, tests in some_cases(6, 120):
            if changed(device, lot, tests)[0] == 'proved':
                for fewer in range(1, len(lot)):
                    self.assertEqual(changed(device, lot[:fewer], tests), ('proved',))
                more = tests.more(asked(device, random_walks(rnd, device.calls, 1, 6)).rows[0])
                self.assertEqual(changed(device, lot, more), ('proved',))
                self.assertEqual(changed(device, lot[::-1], tests), ('proved',))
                proved += 1
        self.assertGreater(proved, 30)


class TestShowsChanged(unittest.TestCase):
    def test_any_values(self):
        enough = asked(LAMP, (('a', 'a', 'a'),))
        told = changed(LAMP, LOT, FEW)
        for value in any_values() + [0, 1, (), 'proved', ['proved'], ('proved', ()), ('passes',), ('passes', LAMP.text)]:
            self.assertIs(shows_changed(LAMP, LOT, FEW, value), False)
            self.assertIs(shows_changed(LAMP, LOT, enough, value), False)
            self.assertIs(shows_changed(LAMP, LOT, FEW, told + (value,)), False)
            for at in range(3):
                self.assertIs(shows_changed(LAMP, LOT, FEW, told[:at] + (value,) + told[at + 1:]), False)
        self.assertIs(shows_changed(LAMP, LOT, enough, ('proved',)), True)
        self.assertIs(shows_changed(LAMP, LOT, FEW, ('proved',)), False)

    def test_what_is_right_but_for_one_part(self):
        rnd = random.Random(7)
        counted = {True: 0, False: 0}
        for device, lot, tests in [(LAMP, LOT, FEW), *some_cases(8, 60)]:
            plain, said = Plain(device.text), Said(tests.text)
            proved = is_proved(plain, lot, said)
            for value in some_variants(changed(device, lot, tests), 120, rnd.random()):
                expected = right_changed(plain, lot, said, proved, value)
                self.assertIs(shows_changed(device, lot, tests, value), expected, (device.text, lot, tests.text, value))
                counted[expected] += 1
        self.assertGreater(counted[True], 50)
        self.assertGreater(counted[False], 3000)

    def test_versions_that_others_made(self):
        rnd = random.Random(9)
        right = 0
        for device, lot, tests in some_cases(10, 60, 2):
            plain, said = Plain(device.text), Said(tests.text)
            rows = sorted(plain.rows)
            for _ in range(12):
                version = device
                for state, call in rnd.choice((lot, lot, tuple(rnd.sample(rows, 2)))):
                    version = version.turned(state, call, rnd.choice(device.answers), rnd.choice(device.states))
                lines = version.text.split('\n')
                text = '\n'.join(lines[:3] + rnd.sample(lines[3:], len(lines) - 3))
                walk = first_parting(plain, Plain(text)) or ()
                value = ('passes', text, walk + random_walks(rnd, device.calls, 1, 3)[0])
                expected = right_changed(plain, lot, said, False, value)
                self.assertIs(shows_changed(device, lot, tests, value), expected)
                right += expected
        self.assertGreater(right, 40)

    def test_devices_that_are_no_versions(self):
        version = LAMP.turned('q', 'a', 'y', 'q')
        walk = ('a', 'a', 'a')
        self.assertIs(shows_changed(LAMP, LOT, FEW, ('passes', version.text, walk)), True)
        self.assertIs(shows_changed(LAMP, LOT, NONE, ('passes', LAMP.turned('q', 'b', 'x', 'q').text, ('a', 'b'))), False)
        self.assertIs(shows_changed(LAMP, (('q', 'b'),), NONE, ('passes', version.text, walk)), False)
        self.assertIs(shows_changed(LAMP, (('q', 'b'), ('q', 'a')), NONE, ('passes', version.text, walk)), True)
        for old, new in (('states p q', 'states p q r'), ('states p q', 'states q p'), ('calls a b', 'calls b a'),
                         ('answers x y', 'answers y x'), ('answers x y', 'answers x y z')):
            text = version.text.replace(old, new)
            if 'p q r' in new:
                text += '\nrow r a x p\nrow r b x p'
            self.assertIs(shows_changed(LAMP, LOT, FEW, ('passes', text, walk)), False)
        self.assertIs(shows_changed(LAMP, LOT, FEW, ('passes', version, walk)), False)


class TestUseful(unittest.TestCase):
    def test_by_a_look(self):
        counted = [0, 0]
        for device, lot, tests in some_cases(11, 200):
            plain, said = Plain(device.text), Said(tests.text)
            ways = versions_of(plain, lot)
            expected = tuple(at for at, (walk, answers) in enumerate(said.rows)
                             if any(version.heard(walk) != answers for version in ways))
            self.assertTrue(same(useful(device, lot, tests), expected))
            counted[0] += len(expected)
            counted[1] += len(tests) - len(expected)
        self.assertGreater(min(counted), 50)
        self.assertEqual(useful(LAMP, LOT, NONE), ())

    def test_a_row_at_the_end_and_the_same_test_twice(self):
        tests = asked(LAMP, (('a', 'b'), ('a', 'b', 'a'), ('b', 'b'), ('a', 'b', 'a')))
        self.assertEqual(useful(LAMP, LOT, tests), (1, 3))
        self.assertEqual(useful(LAMP, (('p', 'a'), ('q', 'a')), tests), (0, 1, 3))


class TestCheapestChange(unittest.TestCase):
    def test_by_a_look(self):
        rnd = random.Random(12)
        counted = {'choice': 0, 'passes': 0, 'several': 0, 'none': 0}
        for device, lot, _ in some_cases(13, 160):
            menu = tuple(sorted({walk for walk in random_walks(rnd, device.calls, rnd.randint(1, 6), rnd.choice((2, 5, 12)))}))
            reset = rnd.choice((0, 1, 2, 10, 99))
            plain = Plain(device.text)
            unlike = [version for version in versions_of(plain, lot) if first_parting(plain, version) is not None]
            heard = {tuple(at for at, walk in enumerate(menu) if version.heard(walk) != plain.heard(walk)) for version in unlike}
            told = cheapest_change(device, lot, menu, reset)
            found = [(choice, price) for choice, price in choices_in_sequence(menu, reset)
                     if all(set(numbers) & set(choice) for numbers in heard)]
            if found:
                self.assertTrue(same(told, ('choice', found[0][1], found[0][0])))
                counted['several'] += len(told[2]) > 1
                counted['none'] += told[2] == ()
            else:
                self.assertTrue(right_changed(plain, lot, Said(asked(device, menu).text), False, told))
                self.assertIs(shows_changed(device, lot, asked(device, menu), told), True)
            counted[told[0]] += 1
        self.assertGreater(min(counted.values()), 5, counted)

    def test_edges(self):
        far = Device('calls a\nanswers x y\nstates p q\nrow p a x p\nrow q a y q')
        for reset in (0, 99):
            self.assertEqual(cheapest_change(far, (('q', 'a'),), (('a',),), reset), ('choice', 0, ()))
        menu = tuple(('a',) * many for many in (6, 5, 4, 3, 2, 1))
        one = Device('calls a\nanswers x y\nstates s\nrow s a x s')
        self.assertEqual(cheapest_change(one, (('s', 'a'),), menu, 99), ('choice', 100, (5,)))
        self.assertEqual(cheapest_change(LAMP, LOT, MENU[:3], 0), ('choice', 3, (1,)))
        self.assertEqual(cheapest_change(LAMP, LOT, MENU[:1], 0)[0], 'passes')
        two = (('q', 'a'), ('q', 'b'))
        self.assertEqual(cheapest_change(LAMP, two, (('a', 'b', 'a'), ('a', 'a', 'a')), 1), ('choice', 8, (0, 1)))


class TestNames(unittest.TestCase):
    NAMES = {'calls': {'a': 'q', 'b': 'calls'}, 'answers': {'x': 'choice', 'y': 'a'},
             'states': {'p': 'z', 'q': 'a', 'u': 's1', 'v': 's0', 'w': 'c'}}

    def test_other_names(self):
        words, states = self.NAMES['calls'], self.NAMES['states']
        for device, lot in ((LAMP, LOT), (LAMP, (('q', 'b'), ('p', 'a'))), (THREE, (('v', 'a'), ('w', 'b')))):
            other = Device(renamed(device.text, self.NAMES))
            turned = tuple((states[state], words[call]) for state, call in lot)
            self.assertEqual(versions(other, turned), versions(device, lot))
            for tests in (FEW, ENOUGH):
                others = Tests(renamed(tests.text, self.NAMES))
                told = changed(other, turned, others)
                self.assertEqual(told[0], changed(device, lot, tests)[0])
                self.assertIs(shows_changed(other, turned, others, told), True)
                self.assertEqual(useful(other, turned, others), useful(device, lot, tests))
            menu = tuple(tuple(words[call] for call in walk) for walk in MENU)
            told = cheapest_change(device, lot, MENU, 2)
            self.assertEqual(cheapest_change(other, turned, menu, 2)[:1], told[:1])
            if told[0] == 'choice':
                self.assertEqual(cheapest_change(other, turned, menu, 2), told)

    def test_nothing_is_changed(self):
        device, tests, lot = Device(LAMP.text), Tests(FEW.text), (('q', 'a'), ('p', 'b'))
        for _ in range(2):
            for call in (changed, useful):
                self.assertTrue(same(call(device, lot, tests), call(LAMP, lot, FEW)))
            try:
                cheapest_change(device, lot, (), 0)
            except BoxError:
                pass
            self.assertEqual(versions(device, lot), versions(LAMP, lot))
            self.assertEqual((device, tests, lot), (LAMP, FEW, (('q', 'a'), ('p', 'b'))))


if __name__ == '__main__':
    unittest.main()
