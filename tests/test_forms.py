"""Points 3 and 5: come and least."""

import itertools
import random
import unittest

from looks import Plain, all_to, first_parting, walks_to
from toldboxes.devices import Device
from toldboxes.forms import come, least
from values import LAMP, THREE, random_text, renamed


def some_devices(seed, many):
    """Devices of all sizes."""
    rnd = random.Random(seed)
    for _ in range(many):
        calls = rnd.sample(['a', 'b', 'c'], rnd.randint(1, 3))
        answers = rnd.sample(['x', 'y', 'z'], rnd.randint(2, 3))
        yield Device(random_text(rnd, calls, answers, rnd.randint(1, 4)))


class TestCome(unittest.TestCase):
    def test_by_going_all_walks(self):
        for device in some_devices(1, 200):
            plain = Plain(device.text)
            met = []
            for walk in walks_to(device.calls, 3):
                state = plain.go(walk)[1]
                if state not in met:
                    met.append(state)
            self.assertEqual(come(device=device), tuple(met))

    def test_states_that_nothing_leads_to(self):
        device = Device('calls a\nanswers x y\nstates p q r s\nrow p a x r\nrow q a y p\nrow r a y r\nrow s a y p')
        self.assertEqual(come(device), ('p', 'r'))
        self.assertEqual(come(device.begun('s')), ('s', 'p', 'r'))

    def test_in_the_sequence_of_calls(self):
        text = 'calls b a\nanswers x y\nstates p q r\nrow p a x q\nrow p b x r\nrow q a x q\nrow q b x q\n'
        self.assertEqual(come(Device(text + 'row r a x r\nrow r b x r')), ('p', 'r', 'q'))


class TestLeast(unittest.TestCase):
    def test_against_all_smaller_devices(self):
        for device in some_devices(2, 60):
            form = least(device=device)
            self.assertIsNone(first_parting(Plain(device.text), Plain(form.text)))
            if len(device.calls) == 1 or len(form) <= 3 and len(device.answers) == 2 and len(device.calls) == 2:
                for smaller in all_to(device.calls, device.answers, len(form) - 1):
                    self.assertIsNotNone(first_parting(Plain(device.text), smaller))

    def test_no_two_states_are_alike(self):
        for device in some_devices(3, 300):
            form = Plain(least(device).text)
            for one, other in itertools.combinations(form.states, 2):
                self.assertIsNotNone(first_parting(form, form, one, other))
            self.assertEqual(len(come(least(device))), len(form.states))

    def test_form_of_the_text(self):
        for device in some_devices(4, 200):
            form = least(device)
            lines = form.text.split('\n')
            self.assertEqual(lines[:2], device.text.split('\n')[:2])
            self.assertEqual(form.states, ('s0', 's1', 's2', 's3')[:len(form)])
            places = [tuple(line.split(' ')[:3]) for line in lines[3:]]
            self.assertEqual(places, [('row', state, call) for state in form.states for call in form.calls])

    def test_states_are_called_by_the_first_ones(self):
        for device in some_devices(5, 200):
            plain, form = Plain(device.text), Plain(least(device).text)
            lots = []
            for state in come(device):
                if all(first_parting(plain, plain, state, head) is not None for head in lots):
                    lots.append(state)
            self.assertEqual(len(lots), len(form.states))
            for state, head in zip(form.states, lots):
                self.assertIsNone(first_parting(plain, form, head, state))

    def test_alike_devices_have_the_same_text(self):
        rnd = random.Random(6)
        for _ in range(400):
            one, other = [Device(random_text(rnd, ('a',), ('x', 'y'), rnd.randint(1, 4))) for _ in range(2)]
            alike = first_parting(Plain(one.text), Plain(other.text)) is None
            self.assertEqual(least(one).text == least(other).text, alike)
            self.assertEqual(least(least(one)), least(one))

    def test_alike_states_that_nothing_leads_to_are_left_out(self):
        text = 'calls a\nanswers x y\nstates p q r\nrow p a x p\nrow q a y r\nrow r a x q'
        self.assertEqual(least(Device(text)).text, 'calls a\nanswers x y\nstates s0\nrow s0 a x s0')

    def test_states_that_are_apart_by_a_long_walk_only(self):
        text = 'calls a\nanswers x y\nstates p q r s\nrow p a x q\nrow q a x r\nrow r a x s\nrow s a y s'
        self.assertEqual(len(least(Device(text))), 4)
        for first, many in (('q', 3), ('r', 2), ('s', 1)):
            self.assertEqual(len(least(Device(text).begun(first))), many)


class TestNames(unittest.TestCase):
    NAMES = {'calls': {'a': 'row', 'b': 'z1'}, 'answers': {'x': 'b', 'y': 'a'}, 'states': {'u': 's1', 'v': 's0', 'w': 'a'}}

    def test_other_names(self):
        states = self.NAMES['states']
        other = Device(renamed(THREE.text, self.NAMES))
        self.assertEqual(come(other), tuple(states[state] for state in come(THREE)))
        keep = {**self.NAMES, 'states': {'s0': 's0', 's1': 's1'}}
        self.assertEqual(least(other).text, renamed(least(THREE).text, keep))

    def test_other_sequences_of_lines_and_states(self):
        for device in (LAMP, THREE, *some_devices(7, 100)):
            lines = device.text.split('\n')
            backwards = Device('\n'.join(lines[:3] + lines[:2:-1]))
            behind = Device('\n'.join(lines[:2] + [' '.join(['states', device.states[0], *device.states[:0:-1]])] + lines[3:]))
            for other in (backwards, behind):
                self.assertEqual(come(other), come(device))
                self.assertEqual(least(other), least(device))

    def test_nothing_is_changed(self):
        device = Device(THREE.text)
        self.assertEqual((come(device), least(device)), (come(THREE), least(THREE)))
        self.assertEqual(device, THREE)
        self.assertEqual((come(device), least(device)), (come(THREE), least(THREE)))


if __name__ == '__main__':
    unittest.main()
