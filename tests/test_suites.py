"""Points 2, 3 and 11: ways, parters, suite, price."""

import itertools
import random
import unittest

from looks import Plain, Said, first_parting, same, someone_passes, walks_to
from raising import Raising
from toldboxes.devices import Device
from toldboxes.errors import BadNumber, Long, Wide
from toldboxes.forms import least
from toldboxes.proving import proves
from toldboxes.records import Tests, asked
from toldboxes.suites import parters, price, suite, ways
from values import ENOUGH, FEW, LAMP, STEADY, THREE, any_values, random_text, random_walks, renamed

HEADS = 'calls a b c\nanswers x y\nstates p q r s\n'
# How many walks and nodes its suites have, more being 1.
SIZES = (
    (54, 175, 'row p a x p\nrow p b x p\nrow p c x s\nrow q a x p\nrow q b x r\nrow q c x r\n'
              'row r a x q\nrow r b x r\nrow r c x s\nrow s a y r\nrow s b x q\nrow s c x p'),
    (81, 121, 'row p a x q\nrow p b y q\nrow p c y r\nrow q a x r\nrow q b x s\nrow q c x r\n'
              'row r a x r\nrow r b y s\nrow r c x q\nrow s a y r\nrow s b y s\nrow s c x q'),
    (81, 202, 'row p a x p\nrow p b y s\nrow p c x r\nrow q a x r\nrow q b x q\nrow q c x q\n'
              'row r a x q\nrow r b x q\nrow r c x p\nrow s a x s\nrow s b x s\nrow s c x p'),
)
WIDEST = Device(HEADS + SIZES[2][2])


def rare_text(rnd, calls, many):
    """The text of a device that seldom answers y, so that its states are parted by long walks."""
    states = ['p', 'q', 'r', 's'][:many]
    rows = [f'row {s} {c} {"y" if rnd.random() < 0.2 else "x"} {rnd.choice(states)}' for s in states for c in calls]
    return '\n'.join([' '.join(['calls', *calls]), 'answers x y', ' '.join(['states', *states]), *rows])


def some_devices(seed, many):
    rnd = random.Random(seed)
    for turn in range(many):
        calls = rnd.sample(['a', 'b', 'c'], rnd.choice((1, 2, 2, 3)))
        if turn % 2:
            yield Device(rare_text(rnd, calls, rnd.randint(1, 4)))
        else:
            yield Device(random_text(rnd, calls, rnd.sample(['x', 'y', 'z'], rnd.randint(2, 3)), rnd.randint(1, 4)))


def look_at_ways(form):
    """For each state of a plain least form the first walk to it."""
    found = {}
    for walk in walks_to(form.calls, 3):
        found.setdefault(form.go(walk)[1], walk)
    return tuple(found[state] for state in form.states)


def look_at_parters(form):
    """The walks that part the states of a plain least form."""
    walks = {first_parting(form, form, one, other) for one, other in itertools.combinations(form.states, 2)}
    return tuple(in_sequence(walks, form.calls)) or ((),)


def in_sequence(walks, calls):
    return sorted(walks, key=lambda walk: (len(walk), [calls.index(call) for call in walk]))


def look_at_suite(device, more):
    """The walks of a suite, as they stand in sequence, and how many nodes they have."""
    form = Plain(least(device).text)
    walks = {way + between + parter for way in look_at_ways(form) for between in walks_to(form.calls, more + 1)
             for parter in look_at_parters(form)}
    nodes = {walk[:many] for walk in walks for many in range(len(walk) + 1)}
    longest = [walk for walk in walks if walk and not any(
        len(other) > len(walk) and other[:len(walk)] == walk for other in walks)]
    return in_sequence(longest, form.calls), len(nodes)


class TestWays(unittest.TestCase):
    def test_by_a_look(self):
        lengths = set()
        for device in some_devices(1, 300):
            form = Plain(least(device).text)
            self.assertTrue(same(ways(device), look_at_ways(form)))
            self.assertTrue(same(parters(device), look_at_parters(form)))
            lengths |= {len(walk) for walk in parters(device)}
        self.assertEqual(lengths, {0, 1, 2, 3})

    def test_one_state(self):
        alike = Device('calls b a\nanswers x y\nstates p q\nrow p a x q\nrow q a x p\nrow p b y q\nrow q b y p')
        far = Device('calls a\nanswers x y\nstates p q\nrow p a x p\nrow q a y q')
        for device in (STEADY, alike, far):
            self.assertEqual(ways(device), ((),))
            self.assertEqual(parters(device), ((),))

    def test_walks_stand_in_sequence(self):
        device = Device('calls b a\nanswers x y\nstates p q r\nrow p b x q\nrow p a x r\nrow q b y q\nrow q a x q\n'
                        'row r b x r\nrow r a y r')
        self.assertEqual(ways(device), ((), ('b',), ('a',)))
        self.assertEqual(parters(device), (('b',), ('a',)))

    def test_alike_states(self):
        self.assertEqual(ways(THREE), ((), ('a',)))
        self.assertEqual(parters(THREE), (('a',),))
        self.assertEqual(ways(THREE.begun('v')), ((), ('a',)))

    def test_names_of_arguments(self):
        self.assertEqual(ways(device=LAMP), ((), ('a',)))
        self.assertEqual(parters(device=LAMP), (('a',),))
        self.assertEqual(suite(device=LAMP, more=0), suite(LAMP, 0))
        self.assertEqual(price(tests=ENOUGH, reset=10), 38)


class TestSuite(Raising, unittest.TestCase):
    def test_by_a_look(self):
        counted = {True: 0, False: 0}
        for device in some_devices(2, 400):
            for more in (0, 1):
                walks, nodes = look_at_suite(device, more)
                wide = len(walks) > 60 or nodes > 200
                counted[wide] += 1
                if wide:
                    self.assert_tells(Wide, len(walks), suite, device, more)
                    continue
                told = suite(device, more)
                self.assertIsInstance(told, Tests)
                self.assertEqual(told, asked(device, tuple(walks)))
                self.assertEqual(len(told.nodes), nodes)
        self.assertGreater(min(counted.values()), 5)

    def test_it_proves(self):
        counted = {0: 0, 1: 0}
        for device in some_devices(3, 90):
            for more in (0, 1):
                m = len(least(device)) + more
                try:
                    tests = suite(device, more)
                    if m <= (3 if len(device.calls) == 3 else 4):
                        self.assertEqual(proves(device, tests, m)[0], 'proved')
                        counted[more] += 1
                except Wide:
                    self.assertEqual(more, 1)
                except Long:
                    self.assertFalse(someone_passes(Plain(device.text), Said(tests.text), m))
        self.assertGreater(min(counted.values()), 20)

    def test_tests_that_prove_among_as_many_states_as_it_has_are_failed_by_slips(self):
        for device in (LAMP, *some_devices(4, 25)):
            form = least(device)
            if len(device) != len(form):
                continue
            tests = suite(device, 0)
            for state, call, answer, goal in itertools.product(device.states, device.calls, device.answers, device.states):
                slip = device.turned(state, call, answer, goal)
                alike = least(slip) == form
                self.assertEqual(Said(tests.text).agrees(Plain(slip.text)), alike)

    def test_one_state(self):
        self.assertEqual(suite(STEADY, 0).walks, (('a',), ('b',)))
        self.assertEqual(suite(STEADY, 1).walks, (('a', 'a'), ('a', 'b'), ('b', 'a'), ('b', 'b')))
        one = Device('calls a\nanswers x y\nstates s\nrow s a y s')
        self.assertEqual(suite(one, 0).text, 'calls a\nanswers x y\ntest a y')
        self.assertEqual(suite(one, 1).text, 'calls a\nanswers x y\ntest a y a y')

    def test_so_many_walks(self):
        for many, nodes, rows in SIZES:
            device = Device(HEADS + rows)
            walks, found = look_at_suite(device, 1)
            self.assertEqual((len(walks), found), (many, nodes))
            self.assertLess(len(suite(device, 0)), 60)
            if many > 60:
                self.assert_tells(Wide, many, suite, device, 1)
            else:
                self.assertEqual(suite(device, 1).walks, tuple(walks))

    def test_alike_devices_have_the_same(self):
        for more in (0, 1):
            self.assertEqual(suite(THREE, more), suite(LAMP, more))
            self.assertEqual(suite(least(THREE), more), suite(LAMP, more))

    def test_wrong_numbers(self):
        for value in any_values() + [2, -1, (), '0', (0,), True, False, 10]:
            self.assert_tells(BadNumber, value, suite, LAMP, value)
            self.assert_tells(BadNumber, value, suite, WIDEST, value)

    def test_other_names(self):
        names = {'calls': {'a': 'q', 'b': 'calls'}, 'answers': {'x': 'b', 'y': 'a'},
                 'states': {'p': 'z', 'q': 'a', 'u': 's1', 'v': 's0', 'w': 'c'}}
        for device in (LAMP, THREE):
            other = Device(renamed(device.text, names))
            for more in (0, 1):
                self.assertEqual(suite(other, more).text, renamed(suite(device, more).text, names))
            self.assertEqual(ways(other), ((), ('q',)))

    def test_nothing_is_changed(self):
        device = Device(LAMP.text)
        for _ in range(2):
            self.assertEqual(suite(device, 1), suite(LAMP, 1))
            self.assertEqual((ways(device), parters(device)), (ways(LAMP), parters(LAMP)))
            self.assertEqual(device, LAMP)


class TestPrice(Raising, unittest.TestCase):
    def test_by_a_look(self):
        rnd = random.Random(5)
        for _ in range(60):
            walks = random_walks(rnd, ['a', 'b'], rnd.randint(0, 20), 12)
            tests = asked(STEADY, walks)
            for reset in (0, 1, rnd.randint(2, 98), 99):
                told = price(tests, reset)
                self.assertIs(type(told), int)
                self.assertEqual(told, sum(map(len, walks)) + reset * len(walks))

    def test_edges(self):
        self.assertEqual(price(FEW, 0), 4)
        self.assertEqual(price(FEW, 99), 202)
        self.assertEqual(price(Tests('calls a b\nanswers x y'), 99), 0)
        twice = Tests('calls a\nanswers x y\ntest a x\ntest a x')
        self.assertEqual(price(twice, 5), 12)

    def test_wrong_numbers(self):
        bad = [value for value in any_values() if type(value) is not int or not 0 <= value <= 99]
        for value in bad + [100, -1, (), '0', (0,), True, False]:
            self.assert_tells(BadNumber, value, price, FEW, value)


if __name__ == '__main__':
    unittest.main()
