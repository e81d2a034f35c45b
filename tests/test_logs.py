"""Points 2, 3 and 17: now, first, torn, expected, shows_expected, knowing, left."""

import random
import unittest

from looks import Plain, look_at_homing, same
from raising import Raising
from toldboxes.devices import Device
from toldboxes.errors import BadDevices, BadLog, BadWalk, NotLeast
from toldboxes.homing import homing
from toldboxes.logs import expected, first, knowing, left, now, shows_expected, torn
from values import (
    FAR, LAMP, RING, STEADY, THREE, any_values, bad_devices, bad_logs, least_devices, random_text, random_walks,
    renamed, some_variants,
)

PAGE = (('a', 'x'), ('b', 'x'))
OTHER = LAMP.turned('p', 'a', 'y', 'q').turned('p', 'b', 'x', 'p')


def agreeing_states(device, log):
    """The states from which on a plain device answers as the log has it, each with the one in which it is then."""
    walk, answers = tuple(call for call, _ in log), tuple(answer for _, answer in log)
    return {state: device.go(walk, state)[1] for state in device.states if device.heard(walk, state) == answers}


def some_logs(seed, many):
    """Devices and logs: such as are told from some state on, some with answers that were changed, and any ones."""
    rnd = random.Random(seed)
    for turn in range(many):
        calls = rnd.sample(['a', 'b', 'c'], rnd.randint(1, 3))
        answers = rnd.sample(['x', 'y', 'z'], 2 if turn % 3 else 3)
        device = Device(random_text(rnd, calls, answers, rnd.randint(1, 4)))
        plain = Plain(device.text)
        walk = tuple(rnd.choice(calls) for _ in range(rnd.choice((0, 1, 1, 2, 3, 5, 24))))
        heard = list(plain.heard(walk, rnd.choice(device.states)))
        if turn % 4 == 0:
            heard = [rnd.choice(answers) if rnd.random() < 0.3 else answer for answer in heard]
        yield device, tuple(zip(walk, heard))


def right_expected(device, log, walk, value):
    if type(value) is not tuple or not value:
        return False
    ends = set(agreeing_states(device, log).values())
    if not ends:
        return same(value, ('torn', look_at_torn(device, log)))
    heard = {device.heard(walk, state) for state in ends}
    if same(value[0], 'always'):
        return len(heard) == 1 and same(value[1:], (list(heard)[0],))
    if not same(value[0], 'open') or len(value) != 3 or not all(type(state) is str for state in value[1:]):
        return False
    return set(value[1:]) <= ends and device.heard(walk, value[1]) != device.heard(walk, value[2])


def look_at_torn(device, log):
    """The least number of a step such that from no state the steps up to this one are answered so."""
    for number in range(len(log)):
        if not agreeing_states(device, log[:number + 1]):
            return number
    return None


class TestErrors(Raising, unittest.TestCase):
    def test_logs(self):
        for value in bad_logs():
            for call in (now, first, torn, knowing):
                self.assert_tells(BadLog, value, call, RING, value)
            for walk in ((), ('a',), ('zz',), None):
                self.assert_tells(BadLog, value, expected, RING, value, walk)
                self.assert_tells(BadLog, value, shows_expected, RING, value, walk, ('torn', 0))
            self.assert_tells(BadLog, value, left, (LAMP, RING), value)

    def test_logs_of_24_and_25_steps(self):
        for many in (0, 24, 25):
            log = (('b', 'y'),) * many
            calls = [(now, (LAMP, log)), (first, (LAMP, log)), (torn, (LAMP, log)), (expected, (LAMP, log, ())),
                     (shows_expected, (LAMP, log, (), None)), (knowing, (LAMP, log)), (left, ((LAMP, RING), log))]
            for call, given in calls:
                if many == 25:
                    self.assert_tells(BadLog, log, call, *given)
                else:
                    call(*given)

    def test_walks(self):
        bad = any_values() + [0, 'a', ['a'], ('c',), ('a', 0), ('a', None), ('a',) * 25, ('a', 'b', ('a',))]
        for value in bad:
            for log in ((), PAGE, PAGE + (('a', 'y'), ('a', 'y'))):
                self.assert_tells(BadWalk, value, expected, RING, log, value)
                self.assert_tells(BadWalk, value, shows_expected, RING, log, value, ('torn', 3))

    def test_not_least(self):
        alike = Device('calls a\nanswers x y\nstates p q\nrow p a x q\nrow q a x p')
        for device in (THREE, THREE.begun('w'), FAR, FAR.begun('q'), alike):
            for log in ((), (('a', 'x'),), None, 'a'):
                self.assert_tells(NotLeast, device, knowing, device, log)

    def test_bad_devices(self):
        for value in bad_devices():
            for log in ((), (('a', 'x'),), None):
                self.assert_tells(BadDevices, value, left, value, log)

    def test_logs_by_the_calls_and_answers_of_the_devices(self):
        self.assert_tells(BadLog, (('b', 'x'),), now, FAR, (('b', 'x'),))
        self.assert_tells(BadLog, (('b', 'x'),), left, (FAR, FAR.begun('q')), (('b', 'x'),))
        self.assertEqual(left((FAR, FAR.begun('q')), (('a', 'x'),)), (0, 1))

    def test_names_of_arguments(self):
        self.assertEqual(now(device=RING, log=PAGE), ('r', 't'))
        self.assertEqual(first(device=RING, log=PAGE), ('r', 's'))
        self.assertIsNone(torn(device=RING, log=PAGE))
        self.assertEqual(expected(device=RING, log=PAGE, walk=('b',)), ('always', ('x',)))
        self.assertIs(shows_expected(device=RING, log=PAGE, walk=('b',), value=('always', ('x',))), True)
        self.assertEqual(knowing(device=RING, log=PAGE), ('a',))
        self.assertEqual(left(devices=(LAMP, OTHER), log=(('b', 'y'),)), (0, 1))


class TestLogs(unittest.TestCase):
    def test_by_a_look(self):
        counted = {0: 0, 1: 0, 2: 0, 3: 0}
        steps = set()
        for device, log in some_logs(1, 500):
            plain = Plain(device.text)
            ends = agreeing_states(plain, log)
            self.assertTrue(same(now(device, log), tuple(state for state in device.states if state in ends.values())))
            self.assertTrue(same(first(device, log), tuple(state for state in device.states if state in ends)))
            self.assertTrue(same(torn(device, log), look_at_torn(plain, log)))
            self.assertEqual(torn(device, log) is None, bool(ends))
            counted[min(len(set(ends.values())), 3)] += 1
            steps.add(torn(device, log))
        self.assertGreater(min(counted.values()), 20)
        self.assertTrue(steps >= {None, 0, 1, 2})

    def test_no_steps(self):
        for device in (LAMP, RING, THREE, STEADY, FAR, RING.begun('t')):
            self.assertEqual(now(device, ()), device.states)
            self.assertEqual(first(device, ()), device.states)
            self.assertIsNone(torn(device, ()))

    def test_torn_at_the_first_step(self):
        log = (('b', 'x'), ('a', 'x'))
        for many in (1, 2):
            self.assertEqual((now(LAMP, log[:many]), first(LAMP, log[:many])), ((), ()))
            self.assertEqual(torn(LAMP, log[:many]), 0)
            self.assertEqual(expected(LAMP, log[:many], ('a',)), ('torn', 0))
            self.assertEqual(knowing(LAMP, log[:many]), ())

    def test_torn_behind_steps_that_different_states_answer(self):
        log = (('a', 'x'), ('a', 'x'), ('a', 'y'), ('a', 'y'), ('a', 'y'))
        self.assertEqual(torn(RING, log), 3)
        self.assertEqual(torn(RING, log[1:]), 2)
        self.assertEqual(torn(RING, log[2:]), 1)
        self.assertIsNone(torn(RING, log[:3]))


class TestExpected(unittest.TestCase):
    def test_by_a_look(self):
        rnd = random.Random(2)
        counted = {'torn': 0, 'always': 0, 'open': 0}
        for device, log in some_logs(3, 300):
            plain = Plain(device.text)
            for walk in ((), *random_walks(rnd, device.calls, 2, 5), tuple(rnd.choice(device.calls) for _ in range(24))):
                told = expected(device, log, walk)
                self.assertTrue(right_expected(plain, log, walk, told), told)
                self.assertIs(shows_expected(device, log, walk, told), True)
                counted[told[0]] += 1
        self.assertGreater(min(counted.values()), 50)

    def test_any_values(self):
        for log, walk in ((PAGE, ('b',)), (PAGE, ('a',)), ((('a', 'y'), ('a', 'y')), ()), (PAGE, ())):
            told = expected(RING, log, walk)
            for value in any_values() + [0, 1, (), 'torn', ('torn',), ('always',), ('open',), ('always', ()), ('open', 'r')]:
                self.assertIs(shows_expected(RING, log, walk, value), same(value, told))
                self.assertIs(shows_expected(RING, log, walk, told + (value,)), False)
                for at in range(len(told)):
                    changed = told[:at] + (value,) + told[at + 1:]
                    self.assertIs(shows_expected(RING, log, walk, changed), same(changed, told))

    def test_what_is_right_but_for_one_part(self):
        rnd = random.Random(4)
        counted = {True: 0, False: 0}
        for device, log in [(RING, PAGE), *some_logs(5, 150)]:
            plain = Plain(device.text)
            for walk in random_walks(rnd, device.calls, 2, 3):
                for value in some_variants(expected(device, log, walk), 60, rnd.random()):
                    right = right_expected(plain, log, walk, value)
                    self.assertIs(shows_expected(device, log, walk, value), right, (device.text, log, walk, value))
                    counted[right] += 1
        self.assertGreater(counted[True], 50)
        self.assertGreater(counted[False], 5000)

    def test_any_two_of_these_states_in_any_sequence(self):
        self.assertEqual(now(RING, PAGE), ('r', 't'))
        for states in (('r', 't'), ('t', 'r')):
            self.assertIs(shows_expected(RING, PAGE, ('a',), ('open', *states)), True)
        # The state s answers otherwise than t, too, but the device cannot be there.
        for states in (('s', 't'), ('t', 's'), ('r', 'r'), ('r', 's'), ('r', 'zz'), ('r', 0), (['r'], 't')):
            self.assertIs(shows_expected(RING, PAGE, ('a',), ('open', *states)), False)
        self.assertIs(shows_expected(RING, PAGE, ('b',), ('open', 'r', 't')), False)

    def test_numbers_of_steps(self):
        log = (('a', 'y'), ('a', 'y'))
        self.assertEqual(expected(RING, log, ('a',)), ('torn', 1))
        for number in (True, 0, 2, '1', None, (1,)):
            self.assertIs(shows_expected(RING, log, ('a',), ('torn', number)), False)
        self.assertIs(shows_expected(RING, log, ('a',), ('torn', 1)), True)
        self.assertIs(shows_expected(LAMP, (('b', 'x'),), (), ('torn', False)), False)


class TestKnowing(unittest.TestCase):
    def test_by_a_look(self):
        rnd = random.Random(6)
        lengths = {}
        for device in least_devices(7, 300):
            plain = Plain(device.text)
            for walk in ((), *random_walks(rnd, device.calls, 3, 4)):
                log = tuple(zip(walk, plain.heard(walk, rnd.choice(device.states))))
                states = sorted(set(agreeing_states(plain, log).values()))
                told = knowing(device, log)
                self.assertTrue(same(told, look_at_homing(plain, states)))
                lengths[len(told)] = lengths.get(len(told), 0) + 1
            self.assertEqual(knowing(device, ()), homing(device))
        for length in (0, 1, 2, 3):
            self.assertGreater(lengths[length], 0, lengths)

    def test_one_or_no_state_left(self):
        self.assertEqual(knowing(RING, (('a', 'y'),)), ())
        self.assertEqual(knowing(RING, (('a', 'y'), ('a', 'y'))), ())
        self.assertEqual(knowing(STEADY, ()), ())


class TestLeft(unittest.TestCase):
    def test_by_a_look(self):
        rnd = random.Random(8)
        counted = {}
        for device, log in some_logs(9, 200):
            others = [Device(random_text(rnd, device.calls, device.answers, rnd.randint(1, 4)))
                      for _ in range(rnd.randint(1, 3))]
            devices = rnd.sample([device, *others], len(others) + 1)
            told = left(tuple(devices), log)
            found = tuple(at for at, one in enumerate(devices) if agreeing_states(Plain(one.text), log))
            self.assertTrue(same(told, found))
            counted[len(told)] = counted.get(len(told), 0) + 1
        for many in (0, 1, 2, 3):
            self.assertGreater(counted[many], 5, counted)

    def test_the_same_device_twice_and_any_state_at_first(self):
        self.assertEqual(left((LAMP, LAMP), (('a', 'y'),)), (0, 1))
        self.assertEqual(left((LAMP, LAMP, LAMP, LAMP), ()), (0, 1, 2, 3))
        self.assertEqual(left((LAMP, LAMP), (('b', 'x'),)), ())
        self.assertEqual(left((LAMP, RING), (('b', 'x'),)), (1,))


class TestNames(unittest.TestCase):
    NAMES = {'calls': {'a': 'q', 'b': 'calls'}, 'answers': {'x': 'torn', 'y': 'a'},
             'states': {'p': 'z', 'q': 'a', 'r': 's1', 's': 's0', 't': 'c', 'u': 'u', 'v': 'open', 'w': 'w'}}

    def test_other_names(self):
        words, answers, states = self.NAMES['calls'], self.NAMES['answers'], self.NAMES['states']
        for device in (LAMP, RING, STEADY, THREE):
            other = Device(renamed(device.text, self.NAMES))
            for log in ((), PAGE, (('a', 'y'),), (('a', 'x'), ('a', 'x')), (('a', 'y'), ('a', 'y'))):
                turned = tuple((words[call], answers[answer]) for call, answer in log)
                self.assertEqual(now(other, turned), tuple(states[state] for state in now(device, log)))
                self.assertEqual(first(other, turned), tuple(states[state] for state in first(device, log)))
                self.assertEqual(torn(other, turned), torn(device, log))
                told = expected(other, turned, ('q', 'q'))
                self.assertEqual(told[0], expected(device, log, ('a', 'a'))[0])
                self.assertIs(shows_expected(other, turned, ('q', 'q'), told), True)
                if device is not THREE:
                    self.assertEqual(knowing(other, turned), tuple(words[call] for call in knowing(device, log)))

    def test_nothing_is_changed(self):
        device, devices = Device(RING.text), (Device(LAMP.text), Device(RING.text))
        for _ in range(2):
            for call in (now, first, torn, knowing):
                self.assertTrue(same(call(device, PAGE), call(RING, PAGE)))
            self.assertTrue(same(expected(device, PAGE, ('a',)), expected(RING, PAGE, ('a',))))
            self.assertTrue(same(left(devices, PAGE), left((LAMP, RING), PAGE)))
            self.assertEqual((device, devices, PAGE), (RING, (LAMP, RING), (('a', 'x'), ('b', 'x'))))


if __name__ == '__main__':
    unittest.main()
