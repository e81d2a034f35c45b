"""Points 2, 3 and 15: homing, resetting, shows_resetting."""

import itertools
import random
import unittest

from looks import Plain, first_parting, look_at_homing, same, walks_to
from raising import Raising
from toldboxes.devices import Device
from toldboxes.errors import NotLeast
from toldboxes.homing import homing, resetting, shows_resetting
from values import (
    FAR, LAMP, RING, STEADY, THREE, TURNING, any_values, least_devices, random_text, renamed, some_variants,
)

# Nine calls are needed to lead its four states to one: no four states need more.
SLOW = Device('calls a b\nanswers x y\nstates p q r s\nrow p a x q\nrow q a x r\nrow r a x s\nrow s a y p\n'
              'row p b x p\nrow q b x q\nrow r b x r\nrow s b x p')


def look_at_resetting(device):
    """The first walk that leads all states to one; None if there is none."""
    lots = [(frozenset(device.states), ())]
    for lot, walk in lots:
        if len(lot) == 1:
            return walk
        for call in device.calls:
            goals = frozenset(device.rows[state, call][1] for state in lot)
            if goals not in [other for other, _ in lots]:
                lots.append((goals, walk + (call,)))
    return None


def right_pairs(device, value):
    """Whether any value is a tuple of pairs of states that never come together."""
    if type(value) is not tuple or not value:
        return False
    ahead = list(itertools.combinations(device.states, 2))
    if not all(type(pair) is tuple and len(pair) == 2 and all(type(name) is str for name in pair) for pair in value):
        return False
    if not set(value) <= set(ahead) or list(value) != sorted(set(value)):
        return False
    for one, other in value:
        for call in device.calls:
            goals = device.rows[one, call][1], device.rows[other, call][1]
            if goals not in value and goals[::-1] not in value:
                return False
    return True


def right_resetting(device, value):
    if type(value) is not tuple or len(value) != 2:
        return False
    if same(value[0], 'never'):
        return right_pairs(device, value[1])
    walk = look_at_resetting(device)
    return walk is not None and same(value, ('walk', walk))


class TestNotLeast(Raising, unittest.TestCase):
    def test_devices_that_are_not_in_least_form(self):
        alike = Device('calls a\nanswers x y\nstates p q\nrow p a x q\nrow q a x p')
        for device in (THREE, THREE.begun('w'), FAR, FAR.begun('q'), alike):
            self.assert_tells(NotLeast, device, homing, device)
            self.assert_tells(NotLeast, device, resetting, device)
            for value in (None, ('walk', ()), ('never', ())):
                self.assert_tells(NotLeast, device, shows_resetting, device, value)

    def test_just_those(self):
        rnd = random.Random(1)
        counted = {True: 0, False: 0}
        for _ in range(150):
            calls = rnd.sample(['a', 'b'], rnd.randint(1, 2))
            device = Device(random_text(rnd, calls, ['x', 'y'], rnd.randint(1, 4)))
            plain = Plain(device.text)
            come_to = {plain.go(walk)[1] for walk in walks_to(plain.calls, 3)}
            right = len(come_to) == len(plain.states) and all(
                first_parting(plain, plain, one, other) for one, other in itertools.combinations(plain.states, 2))
            counted[right] += 1
            if right:
                homing(device)
                resetting(device)
            else:
                self.assert_tells(NotLeast, device, homing, device)
                self.assert_tells(NotLeast, device, resetting, device)
        self.assertGreater(min(counted.values()), 20)

    def test_names_of_arguments(self):
        self.assertEqual(homing(device=RING), ('a', 'a'))
        self.assertEqual(resetting(device=RING), ('walk', ('b', 'a', 'b')))
        self.assertIs(shows_resetting(device=RING, value=('walk', ('b', 'a', 'b'))), True)


class TestHoming(unittest.TestCase):
    def test_by_a_look(self):
        lengths = set()
        for device in least_devices(2, 300):
            told = homing(device)
            self.assertTrue(same(told, look_at_homing(Plain(device.text), device.states)))
            lengths.add(len(told))
        self.assertTrue(lengths >= {0, 1, 2, 3})

    def test_one_state(self):
        self.assertEqual(homing(STEADY), ())

    def test_the_first_one_of_several(self):
        both = Device('calls b a\nanswers x y\nstates p q\nrow p a x q\nrow q a y q\nrow p b x p\nrow q b y q')
        self.assertEqual(homing(both), ('b',))

    def test_states_that_are_heard_alike_and_come_together(self):
        together = Device('calls a b\nanswers x y\nstates p q\nrow p a x q\nrow q a x q\nrow p b x p\nrow q b y q')
        self.assertEqual(homing(together), ('a',))


class TestResetting(unittest.TestCase):
    def test_by_a_look(self):
        counted = {'walk': 0, 'never': 0}
        lengths = set()
        for device in least_devices(3, 300):
            plain = Plain(device.text)
            told = resetting(device)
            self.assertTrue(right_resetting(plain, told), told)
            self.assertEqual(told[0], 'never' if look_at_resetting(plain) is None else 'walk')
            self.assertIs(shows_resetting(device, told), True)
            counted[told[0]] += 1
            lengths |= {len(told[1])} if told[0] == 'walk' else set()
        self.assertGreater(min(counted.values()), 50)
        self.assertTrue(lengths >= {0, 1, 2, 3})

    def test_edges(self):
        self.assertEqual(resetting(STEADY), ('walk', ()))
        told = resetting(SLOW)
        self.assertEqual(len(told[1]), 9)
        self.assertTrue(right_resetting(Plain(SLOW.text), told))
        self.assertEqual(resetting(TURNING)[0], 'never')

    def test_pairs_some_of_which_come_together(self):
        counted = 0
        for device in least_devices(4, 1000):
            told = resetting(device)
            if told[0] == 'never' and len(told[1]) < len(device) * (len(device) - 1) // 2:
                counted += 1
                self.assertTrue(right_pairs(Plain(device.text), told[1]))
        self.assertGreater(counted, 3)


class TestShowsResetting(unittest.TestCase):
    def test_any_values(self):
        for device in (LAMP, RING, STEADY, TURNING):
            told = resetting(device)
            for value in any_values() + [0, 1, (), 'walk', ('walk',), ('never',), ('never', ()), ('never', (('p', 'p'),))]:
                self.assertIs(shows_resetting(device, value), False)
                self.assertIs(shows_resetting(device, told + (value,)), False)
                self.assertIs(shows_resetting(device, (value, told[1])), same(value, told[0]))
                self.assertIs(shows_resetting(device, (told[0], value)), same(value, told[1]))

    def test_what_is_right_but_for_one_part(self):
        rnd = random.Random(5)
        counted = {True: 0, False: 0}
        for device in (LAMP, RING, TURNING, SLOW, *least_devices(6, 60)):
            plain = Plain(device.text)
            for value in some_variants(resetting(device), 150, rnd.random()):
                expected = right_resetting(plain, value)
                self.assertIs(shows_resetting(device, value), expected, (device.text, value))
                counted[expected] += 1
        self.assertGreater(counted[True], 10)
        self.assertGreater(counted[False], 3000)

    def test_all_pairs(self):
        counted = {True: 0, False: 0}
        for device in (TURNING, RING, *least_devices(7, 120)):
            plain = Plain(device.text)
            ahead = list(itertools.combinations(device.states, 2))
            for many in range(len(ahead) + 1):
                for pairs in itertools.combinations(ahead, many):
                    for value in (tuple(sorted(pairs)), pairs, tuple(pair[::-1] for pair in pairs), list(pairs)):
                        expected = right_pairs(plain, value)
                        self.assertIs(shows_resetting(device, ('never', value)), expected)
                        counted[expected] += 1
        self.assertGreater(min(counted.values()), 30)

    def test_pairs_of_one_state(self):
        for device in (LAMP, TURNING, RING):
            pairs = tuple((state, state) for state in sorted(device.states))
            self.assertIs(shows_resetting(device, ('never', pairs)), False)
            told = resetting(device)
            if told[0] == 'never':
                self.assertIs(shows_resetting(device, ('never', tuple(sorted(told[1] + pairs)))), False)

    def test_other_walks(self):
        self.assertEqual(resetting(RING), ('walk', ('b', 'a', 'b')))
        for walk in (('b', 'a', 'b', 'b'), ('b', 'b', 'a', 'b'), ('b', 'a'), ['b', 'a', 'b'], 'bab', None, ()):
            self.assertIs(shows_resetting(RING, ('walk', walk)), False)
        # Another one as short as the first one is not the first one.
        both = Device('calls a b\nanswers x y\nstates p q\nrow p a x p\nrow q a y p\nrow p b x q\nrow q b x q')
        self.assertEqual(resetting(both), ('walk', ('a',)))
        self.assertIs(shows_resetting(both, ('walk', ('b',))), False)
        self.assertIs(shows_resetting(LAMP, ('walk', ())), False)


class TestNames(unittest.TestCase):
    NAMES = {'calls': {'a': 'q', 'b': 'calls'}, 'answers': {'x': 'never', 'y': 'a'},
             'states': {'p': 'z', 'q': 'a', 'r': 's1', 's': 's0', 't': 'c'}}

    def test_other_names(self):
        words, states = self.NAMES['calls'], self.NAMES['states']
        for device in (LAMP, RING, STEADY, SLOW, TURNING):
            other = Device(renamed(device.text, self.NAMES))
            self.assertEqual(homing(other), tuple(words[call] for call in homing(device)))
            told = resetting(device)
            self.assertEqual(resetting(other)[0], told[0])
            self.assertIs(shows_resetting(other, resetting(other)), True)
            if told[0] == 'walk':
                self.assertEqual(resetting(other)[1], tuple(words[call] for call in told[1]))
            else:
                pairs = tuple(sorted((states[one], states[two]) for one, two in told[1]))
                self.assertIs(shows_resetting(other, ('never', pairs)), True)

    def test_other_sequences_of_lines_and_states(self):
        for device in least_devices(8, 60):
            lines = device.text.split('\n')
            states = ' '.join(['states', device.states[0], *device.states[:0:-1]])
            other = Device('\n'.join(lines[:2] + [states] + lines[:2:-1]))
            self.assertEqual(homing(other), homing(device))
            told = resetting(device)
            if told[0] == 'walk':
                self.assertEqual(resetting(other), told)

    def test_nothing_is_changed(self):
        device = Device(RING.text)
        for _ in range(2):
            self.assertTrue(same((homing(device), resetting(device)), (homing(RING), resetting(RING))))
            self.assertEqual(device, RING)


if __name__ == '__main__':
    unittest.main()
