"""Points 2, 3, 8 and 9: proves, fooled, needless."""

import itertools
import random
import unittest

from looks import (
    Plain, Said, agreeing, any_cases, first_parting, least_fooling, right_fooled, right_proves, same, someone_passes,
)
from raising import Raising
from toldboxes.devices import Device
from toldboxes.errors import Against, BadNumber, BoxError, Few, Long, OtherCalls
from toldboxes.forms import least
from toldboxes.proving import fooled, needless, proves, shows_fooled, shows_proves
from toldboxes.records import Tests, asked
from toldboxes.sortings import sortings
from values import ENOUGH, FEW, LAMP, STEADY, THREE, any_values, random_text, random_walks, renamed, some_variants

FOUR = Device(
    'calls a b c\nanswers x y\nstates p q r s\nrow p a x q\nrow q a x r\nrow r a x s\nrow s a y p\n'
    'row p b x p\nrow q b x p\nrow r b x p\nrow s b x p\nrow p c x p\nrow q c x q\nrow r c x r\nrow s c x s'
)
NONE = Tests('calls a b\nanswers x y')


def all_walks(calls, length):
    return tuple(itertools.product(calls, repeat=length))


def some_cases(seed, many, sizes):
    """Devices and tests that agree with them: weak ones, strong ones, and strong ones with a test left out."""
    rnd = random.Random(seed)
    for turn in range(many):
        calls, most = rnd.choice(sizes)
        calls = rnd.sample(list(calls), len(calls))
        answers = rnd.sample(['x', 'y', 'z'], 3 if turn % 5 == 0 else 2)
        device = Device(random_text(rnd, calls, answers, rnd.randint(1, most)))
        if turn % 3 == 0:
            walks = random_walks(rnd, calls, rnd.randint(0, 6), 5)
        else:
            walks = all_walks(calls, {1: 8, 2: 4, 3: 3}[len(calls)])
        tests = asked(device, walks)
        if turn % 3 == 2:
            tests = tests.without(rnd.randrange(len(tests)))
        yield device, tests


def numbers_for(device, tests):
    """The numbers m that proves takes."""
    return range(len(least(device)), 4 if len(tests.calls) == 3 else 5)


class TestErrors(Raising, unittest.TestCase):
    CALLS = (
        (proves, ()), (needless, ()), (shows_proves, (None,)), (shows_proves, (('passes', THREE.text, ('a',)),)),
    )

    def test_other_calls(self):
        for heads in ('calls b a\nanswers x y', 'calls a b\nanswers y x', 'calls a\nanswers x y', 'calls a b c\nanswers x y',
                      'calls a b\nanswers x y z', 'calls a z\nanswers x y'):
            tests = Tests(heads)
            for m in (0, 1, 2, None):
                for call, more in self.CALLS:
                    self.assert_tells(OtherCalls, tests, call, LAMP, tests, m, *more)
            self.assert_tells(OtherCalls, tests, fooled, LAMP, tests)
            self.assert_tells(OtherCalls, tests, shows_fooled, LAMP, tests, None)

    def test_against(self):
        both = Tests('calls a b\nanswers x y\ntest b y\ntest a x a x\ntest a x b x')
        for device, tests, number in ((LAMP.begun('q'), FEW, 0), (LAMP, both, 1)):
            for m in (0, 1, 2, 3, None, 'a'):
                for call, more in self.CALLS:
                    self.assert_tells(Against, number, call, device, tests, m, *more)
            self.assert_tells(Against, number, fooled, device, tests)
            self.assert_tells(Against, number, shows_fooled, device, tests, None)

    def test_numbers(self):
        for value in any_values() + [0, 5, (), '2', (2,), True]:
            for call, more in self.CALLS:
                self.assert_tells(BadNumber, value, call, LAMP, ENOUGH, value, *more)
        three_calls = asked(FOUR, (('a', 'b', 'c'),))
        for call, more in self.CALLS:
            self.assert_tells(BadNumber, 4, call, FOUR, three_calls, 4, *more)

    def test_few(self):
        chain = Device('calls a\nanswers x y\nstates p q r s\nrow p a x q\nrow q a x r\nrow r a x s\nrow s a y s')
        for device, many in ((LAMP, 2), (THREE, 2), (chain, 4), (chain.begun('q'), 3), (FOUR, 4)):
            tests = asked(device, (('a', 'a'),))
            for m in range(1, 4 if device is FOUR else 5):
                for call, more in self.CALLS:
                    if m < many:
                        self.assert_tells(Few, many, call, device, tests, m, *more)
                    else:
                        call(device, tests, m, *more)

    def test_names_of_arguments(self):
        self.assertEqual(proves(device=LAMP, tests=ENOUGH, m=2), proves(LAMP, ENOUGH, 2))
        self.assertIs(shows_proves(device=LAMP, tests=ENOUGH, m=2, value=proves(LAMP, ENOUGH, 2)), True)
        self.assertEqual(fooled(device=LAMP, tests=FEW), fooled(LAMP, FEW))
        self.assertIs(shows_fooled(device=LAMP, tests=FEW, value=fooled(LAMP, FEW)), True)
        self.assertEqual(needless(device=LAMP, tests=ENOUGH, m=2), ())


class TestProves(unittest.TestCase):
    def test_by_all_devices(self):
        counted = {}
        for device, tests in some_cases(1, 150, (('a', 4), ('ab', 2), ('abc', 1))):
            plain, said = Plain(device.text), Said(tests.text)
            top = {1: 4 if len(said.answers) == 2 else 3, 2: 2, 3: 1}[len(said.calls)]
            for m in [m for m in numbers_for(device, tests) if m <= top]:
                told = proves(device, tests, m)
                alike = all(first_parting(plain, other) is None for other in agreeing(said, m))
                self.assertEqual(told[0], 'proved' if alike else 'passes')
                counted[told[0], m] = counted.get((told[0], m), 0) + 1
                self.assertTrue(right_proves(plain, said, m, told), told)
                self.assertIs(shows_proves(device, tests, m, told), True)
        for m in (2, 3):
            for word in ('proved', 'passes'):
                self.assertGreater(counted[word, m], 3)

    def test_by_all_greater_devices(self):
        counted = {}
        for device, tests in some_cases(2, 90, (('a', 4), ('ab', 3), ('abc', 2))):
            plain, said = Plain(device.text), Said(tests.text)
            for m in numbers_for(device, tests):
                try:
                    told = proves(device, tests, m)
                except Long:
                    continue
                self.assertEqual(told[0], 'passes' if someone_passes(plain, said, m) else 'proved')
                self.assertTrue(right_proves(plain, said, m, told))
                self.assertIs(shows_proves(device, tests, m, told), True)
                counted[told[0], len(said.calls)] = counted.get((told[0], len(said.calls)), 0) + 1
        for calls in (1, 2, 3):
            for word in ('proved', 'passes'):
                self.assertGreater(counted[word, calls], 3)

    def test_no_tests_at_all(self):
        for m in (1, 2, 3, 4):
            told = proves(STEADY, NONE, m)
            self.assertEqual(told[0], 'passes')
            self.assertTrue(right_proves(Plain(STEADY.text), Said(NONE.text), m, told))
        self.assertEqual(needless(STEADY, NONE, 1), ())

    def test_one_state(self):
        tests = asked(STEADY, (('a',), ('b',)))
        self.assertEqual(proves(STEADY, tests, 1), ('proved', ('cases', ('a',), (('cases', ('b',), (('alike', ('s',)),)),))))
        self.assertEqual(proves(STEADY, tests, 2)[0], 'passes')

    def test_fewer_states(self):
        for device, tests in some_cases(3, 60, (('a', 4), ('ab', 2))):
            words = []
            for m in numbers_for(device, tests):
                try:
                    words.append(proves(device, tests, m)[0])
                except Long:
                    words.append('proved')
            self.assertEqual(words, sorted(words, reverse=True))

    def test_further_tests(self):
        rnd = random.Random(4)
        proved = 0
        for device, tests in some_cases(5, 60, (('a', 4), ('ab', 2))):
            more = tests.more(asked(device, random_walks(rnd, device.calls, 1, 6)).rows[0])
            for m in numbers_for(device, tests):
                try:
                    if proves(device, tests, m)[0] == 'proved':
                        self.assertEqual(proves(device, more, m)[0], 'proved')
                        proved += 1
                except Long:
                    self.assertGreater(len(tests), 1)
        self.assertGreater(proved, 20)

    def test_far_more_than_six_hundred_sortings_and_one_passes(self):
        weak = asked(STEADY, all_walks('ab', 4))
        self.assertRaises(Long, sortings, weak, 4)
        told = proves(STEADY, weak.without(15), 4)
        self.assertEqual(told[0], 'passes')
        self.assertTrue(right_proves(Plain(STEADY.text), Said(weak.without(15).text), 4, told))
        self.assertIs(shows_proves(STEADY, weak.without(15), 4, told), True)
        self.assertEqual(needless(STEADY, weak.without(15), 4), ())

    def test_many_nodes(self):
        rnd = random.Random(6)
        for calls, m in ((['a', 'b'], 4), (['a', 'b', 'c'], 3)):
            for _ in range(6):
                device = Device(random_text(rnd, calls, ['x', 'y'], 3))
                tests = asked(device, random_walks(rnd, calls, 22, 9))
                try:
                    told = proves(device, tests, m)
                    self.assertTrue(right_proves(Plain(device.text), Said(tests.text), m, ('passes', *told[1:]))
                                    if told[0] == 'passes' else not someone_passes(Plain(device.text), Said(tests.text), m))
                    self.assertIs(shows_proves(device, tests, m, told), True)
                except Long:
                    self.assertFalse(someone_passes(Plain(device.text), Said(tests.text), m))


class TestLong(Raising, unittest.TestCase):
    """How many sortings tests have that prove a device hangs on the device and m alone."""

    def test_proved_with_290(self):
        device = Device('calls a b\nanswers x y\nstates p q\nrow p a x p\nrow p b x q\nrow q a y q\nrow q b x q')
        tests = asked(device, all_walks('ab', 5))
        told = proves(device, tests, 4)
        self.assertEqual((told[0], sortings(tests, 4)), ('proved', 290))
        self.assertIs(shows_proves(device, tests, 4, told), True)
        self.assertEqual(fooled(device, tests), ('none', told[1]))
        self.assertIs(shows_fooled(device, tests, ('none', told[1])), True)
        for number in (1, 2, 3, 4, None, True):
            self.assertIs(shows_fooled(device, tests, ('fooled', number, LAMP.text, ('b',))), False)

    def test_proved_with_830(self):
        device = Device('calls a b\nanswers x y\nstates p q\nrow p a x q\nrow p b x q\nrow q a y q\nrow q b y q')
        tests = asked(device, all_walks('ab', 5))
        self.assertFalse(someone_passes(Plain(device.text), Said(tests.text), 4))
        self.assertEqual(proves(device, tests, 3)[0], 'proved')
        self.refused(device, tests, 4)

    def test_proved_with_all(self):
        tests = asked(STEADY, all_walks('ab', 4))
        self.assertEqual((proves(STEADY, tests, 3)[0], sortings(tests, 3)), ('proved', 229))
        self.refused(STEADY, tests, 4)

    def test_proved_with_three_calls(self):
        device = Device('calls a b c\nanswers x y\nstates s\nrow s a x s\nrow s b x s\nrow s c y s')
        tests = asked(device, all_walks('abc', 3))
        self.assertEqual(proves(device, tests, 2)[0], 'proved')
        self.refused(device, tests, 3)

    def refused(self, device, tests, m):
        for value in (None, ('proved', ()), ('passes', device.text, ()), ('none', ()), ('fooled', m, device.text, ())):
            self.assert_tells(Long, 600, shows_proves, device, tests, m, value)
            self.assert_tells(Long, 600, shows_fooled, device, tests, value)
        self.assert_tells(Long, 600, proves, device, tests, m)
        self.assert_tells(Long, 600, needless, device, tests, m)
        self.assert_tells(Long, 600, fooled, device, tests)
        self.assert_tells(Few if len(least(device)) > 1 else BadNumber, 2 if len(least(device)) > 1 else 0, proves,
                          device, tests, 1 if len(least(device)) > 1 else 0)


class TestFooled(unittest.TestCase):
    def test_by_all_devices(self):
        counted = {}
        for device, tests in some_cases(7, 80, (('a', 4), ('ab', 2), ('ab', 3), ('abc', 2))):
            plain, said = Plain(device.text), Said(tests.text)
            expected = least_fooling(plain, said)
            try:
                told = fooled(device, tests)
            except Long:
                self.assertIsNone(expected)
                continue
            self.assertTrue(right_fooled(plain, said, expected, told), told)
            self.assertIs(shows_fooled(device, tests, told), True)
            counted[expected] = counted.get(expected, 0) + 1
        for number in (None, 1, 2, 3, 4):
            self.assertGreater(counted[number], 1, counted)

    def test_fewer_states_than_the_device(self):
        tests = asked(FOUR, (('a', 'a'),))
        told = fooled(FOUR, tests)
        self.assertEqual(told[:2], ('fooled', 1))
        self.assertTrue(right_fooled(Plain(FOUR.text), Said(tests.text), 1, told))

    def test_three_calls_and_four_states(self):
        tests = asked(FOUR, all_walks('abc', 3) + (('a',) * 12, ('a', 'a', 'a', 'a', 'b', 'a', 'a', 'a', 'a')))
        self.assertFalse(any(someone_passes(Plain(FOUR.text), Said(tests.text), m) for m in (1, 2, 3)))
        told = fooled(FOUR, tests)
        self.assertEqual(told[0], 'none')
        self.assertTrue(right_fooled(Plain(FOUR.text), Said(tests.text), None, told))
        self.assertIs(shows_fooled(FOUR, tests, told), True)

    def test_another_number(self):
        told = fooled(LAMP, FEW)
        self.assertEqual(told[1], 2)
        for number in (1, 3, 4, 0, True, '2', None, (2,), [2], 2000000):
            self.assertIs(shows_fooled(LAMP, FEW, ('fooled', number, *told[2:])), False)
        greater = told[2].replace('states s0 s1', 'states s0 s1 s2') + '\nrow s2 a x s0\nrow s2 b x s0'
        for number in (2, 3):
            self.assertIs(shows_fooled(LAMP, FEW, ('fooled', number, greater, told[3])), False)
        one = asked(STEADY, (('a',),))
        told = fooled(STEADY, one)
        self.assertEqual(told[1], 1)
        self.assertIs(shows_fooled(STEADY, one, ('fooled', True, *told[2:])), False)


class TestNeedless(unittest.TestCase):
    def test_by_all_devices(self):
        counted = {}
        for device, tests in some_cases(8, 60, (('a', 3), ('ab', 2), ('abc', 1))):
            plain = Plain(device.text)
            for m in numbers_for(device, tests):
                try:
                    told = needless(device, tests, m)
                except Long:
                    self.assertRaises(Long, proves, device, tests, m)
                    continue
                expected = ()
                if not someone_passes(plain, Said(tests.text), m):
                    expected = tuple(at for at in range(len(tests))
                                     if not someone_passes(plain, Said(tests.without(at).text), m))
                self.assertTrue(same(told, expected))
                counted[min(len(told), 2)] = counted.get(min(len(told), 2), 0) + 1
        for number in (0, 1, 2):
            self.assertGreater(counted[number], 0, counted)

    def test_the_same_test_twice(self):
        self.assertEqual(needless(LAMP, ENOUGH, 2), ())
        self.assertEqual(needless(LAMP, ENOUGH.more(ENOUGH.rows[1]), 2), (1, 3))
        self.assertEqual(needless(LAMP, ENOUGH.more((('b', 'y'),)), 2), (3,))
        self.assertEqual(needless(LAMP, FEW, 2), ())


class TestShows(unittest.TestCase):
    def test_any_values(self):
        for tests in (FEW, ENOUGH):
            right = proves(LAMP, tests, 2)
            for value in any_values() + [0, 1, (), right[1], 'proved', ('proved',), ('passes',), ('passes', LAMP.text),
                                         ('passes', LAMP.text, ('a',)), ('none',), ('fooled',), ('fooled', 2)]:
                self.assertIs(shows_proves(LAMP, tests, 2, value), False)
                self.assertIs(shows_fooled(LAMP, tests, value), False)
                for at in range(len(right)):
                    changed = right[:at] + (value,) + right[at + 1:]
                    expected = right_proves(Plain(LAMP.text), Said(tests.text), 2, changed)
                    self.assertIs(shows_proves(LAMP, tests, 2, changed), expected)
                self.assertIs(shows_proves(LAMP, tests, 2, right + (value,)), False)

    def test_what_is_right_but_for_one_part(self):
        rnd = random.Random(9)
        counted = {True: 0, False: 0}
        pairs = [(LAMP, FEW), (LAMP, ENOUGH), (THREE, ENOUGH), *some_cases(10, 30, (('a', 4), ('ab', 2), ('abc', 1)))]
        for device, tests in pairs:
            plain, said = Plain(device.text), Said(tests.text)
            for m in list(numbers_for(device, tests))[:2]:
                try:
                    told = proves(device, tests, m)
                except Long:
                    continue
                for value in some_variants(told, 120, rnd.random()):
                    expected = right_proves(plain, said, m, value)
                    self.assertIs(shows_proves(device, tests, m, value), expected, (device.text, tests.text, m, value))
                    counted[expected] += 1
        self.assertGreater(counted[True], 50)
        self.assertGreater(counted[False], 2000)

    def test_what_is_right_of_fooled_but_for_one_part(self):
        rnd = random.Random(11)
        counted = {True: 0, False: 0}
        for device, tests in [(LAMP, FEW), (LAMP, ENOUGH), *some_cases(12, 30, (('a', 3), ('ab', 2)))]:
            plain, said = Plain(device.text), Said(tests.text)
            try:
                told = fooled(device, tests)
            except Long:
                continue
            number = None if told[0] == 'none' else told[1]
            for value in some_variants(told, 60, rnd.random()):
                expected = right_fooled(plain, said, number, value)
                self.assertIs(shows_fooled(device, tests, value), expected, (device.text, tests.text, value))
                counted[expected] += 1
        self.assertGreater(counted[True], 20)
        self.assertGreater(counted[False], 1000)

    def test_cases_that_others_made(self):
        rnd = random.Random(13)
        made = 0
        counted = {True: 0, False: 0}
        for device, tests in [(THREE, ENOUGH)] * 5 + list(some_cases(14, 40, (('a', 4), ('ab', 2), ('abc', 1)))):
            plain, said = Plain(device.text), Said(tests.text)
            for m in list(numbers_for(device, tests))[:2]:
                try:
                    if proves(device, tests, m)[0] != 'proved' or sortings(tests, m) > 40:
                        continue
                except Long:
                    continue
                value = 'proved', any_cases(rnd, said, m, lambda place: self.any_end(rnd, plain, place))
                self.assertTrue(right_proves(plain, said, m, value))
                self.assertIs(shows_proves(device, tests, m, value), True)
                made += 1
                for other in some_variants(value, 30, rnd.random()):
                    expected = right_proves(plain, said, m, other)
                    self.assertIs(shows_proves(device, tests, m, other), expected, (device.text, tests.text, m, other))
                    counted[expected] += 1
        self.assertGreater(made, 20)
        self.assertGreater(counted[True], 20)
        self.assertGreater(counted[False], 500)

    def any_end(self, rnd, plain, place):
        """Any right end: for each class any state that is alike with the one that is come to."""
        states = []
        for number in range(len(set(place.values()))):
            node = rnd.choice([node for node in place if place[node] == number])
            state = plain.go(node)[1]
            alike = [other for other in plain.states if first_parting(plain, plain, state, other) is None]
            states.append(plain.states[0] if number == 0 else rnd.choice(alike))
        return 'alike', tuple(states)

    def test_ends_too_early(self):
        for tests in (FEW, ENOUGH):
            for states in ((), ('p',), ('p', 'q'), ('q',), ('p', 'p')):
                end = ('alike', states)
                for value in (end, ('cases', ('a',), (end, end)), ('cases', ('a',), (('torn', (), ('a',), ('a',)), end)),
                              ('cases', ('b',), (end, end))):
                    self.assertIs(shows_proves(LAMP, tests, 2, ('proved', value)), False)
        told = proves(LAMP, ENOUGH, 2)
        for end in (('alike',), ('alike', ('p', 'q'), ()), ('alike', ['p', 'q']), ('alike', ('p', 0)), ('like', ('p', 'q')),
                    ('alike', 'pq'), ('end',), ('alike', ('p', 'q', 'q')), ('alike', ('q', 'p'))):
            self.assertIs(shows_proves(LAMP, ENOUGH, 2, self.with_end(told, end)), False)

    def test_states_that_answer_alike_at_once_only(self):
        ring = Device('calls a\nanswers x y\nstates p q r\nrow p a x q\nrow q a x r\nrow r a y p')
        tests = asked(ring, (('a',) * 9,))
        told = proves(ring, tests, 3)
        self.assertIs(shows_proves(ring, tests, 3, self.with_end(told, ('alike', ('p', 'q', 'r')))), True)
        for states in (('p', 'p', 'r'), ('p', 'q', 'q'), ('p', 'r', 'q'), ('q', 'q', 'r')):
            self.assertIs(shows_proves(ring, tests, 3, self.with_end(told, ('alike', states))), False)

    def test_class_0_has_the_first_state(self):
        tests = asked(THREE, (('b', 'a'), ('a', 'a', 'a'), ('a', 'b', 'a')))
        told = proves(THREE, tests, 2)
        self.assertIn("('alike', ('u', 'v'))", repr(told))
        self.assertIs(shows_proves(THREE, tests, 2, told), True)
        for states, expected in ((('w', 'v'), False), (('u', 'u'), False), (('u', 'v', 'w'), False), (('u',), False)):
            self.assertIs(shows_proves(THREE, tests, 2, self.with_end(told, ('alike', states))), expected)
        other = THREE.begun('w')
        self.assertIs(shows_proves(other, tests, 2, told), False)
        for states in (('w', 'v'), ('u', 'v')):
            self.assertIs(shows_proves(other, tests, 2, self.with_end(told, ('alike', states))), states[0] == 'w')

    def with_end(self, value, end):
        """The value with another end in the place of each one."""
        if isinstance(value, tuple) and value[:1] == ('alike',):
            return end
        if isinstance(value, tuple):
            return tuple(self.with_end(part, end) for part in value)
        return value

    def test_states_of_the_device_that_nothing_leads_to(self):
        far = Device(LAMP.text.replace('states p q', 'states p q far') + '\nrow far a y p\nrow far b y far')
        told = proves(far, ENOUGH, 2)
        self.assertIs(shows_proves(far, ENOUGH, 2, told), True)
        self.assertIs(shows_proves(far, ENOUGH, 2, self.with_end(told, ('alike', ('p', 'far')))), True)

    def test_at_most_so_many_states(self):
        told = proves(LAMP, ENOUGH, 3)
        self.assertEqual(told[0], 'passes')
        self.assertEqual(len(Device(told[1])), 3)
        self.assertIs(shows_proves(LAMP, ENOUGH, 3, told), True)
        self.assertIs(shows_proves(LAMP, ENOUGH, 4, told), True)
        self.assertIs(shows_proves(LAMP, ENOUGH, 2, told), False)
        self.assertIs(shows_proves(LAMP, ENOUGH, 3, proves(LAMP, ENOUGH, 2)), False)

    def test_walks_of_24_calls_and_more(self):
        _, text, walk = proves(LAMP, FEW, 2)
        for length in (23, 24):
            longer = walk + ('a',) * (length - len(walk))
            self.assertIs(shows_proves(LAMP, FEW, 2, ('passes', text, longer)), True)
        self.assertIs(shows_proves(LAMP, FEW, 2, ('passes', text, longer + ('a',))), False)
        self.assertIs(shows_proves(LAMP, FEW, 2, ('passes', text, walk[:-1])), False)
        self.assertIs(shows_proves(LAMP, FEW, 2, ('passes', text, ())), False)


class TestNames(unittest.TestCase):
    NAMES = {'calls': {'a': 'q', 'b': 'calls'}, 'answers': {'x': 'alike', 'y': 'a'},
             'states': {'p': 'torn', 'q': 'a', 'u': 's1', 'v': 's0', 'w': 'cases'}}

    def test_other_names(self):
        for device, tests in ((LAMP, FEW), (LAMP, ENOUGH), (THREE, ENOUGH)):
            other, others = Device(renamed(device.text, self.NAMES)), Tests(renamed(tests.text, self.NAMES))
            for m in (2, 3, 4):
                told = proves(other, others, m)
                self.assertEqual(told[0], proves(device, tests, m)[0])
                self.assertTrue(right_proves(Plain(other.text), Said(others.text), m, told))
                self.assertIs(shows_proves(other, others, m, told), True)
                self.assertEqual(needless(other, others, m), needless(device, tests, m))
            self.assertEqual(fooled(other, others)[:2], fooled(device, tests)[:2])

    def test_other_sequences_of_lines_and_states(self):
        for device, tests in some_cases(15, 40, (('a', 4), ('ab', 2))):
            lines = device.text.split('\n')
            states = ' '.join(['states', device.states[0], *device.states[:0:-1]])
            other = Device('\n'.join(lines[:2] + [states] + lines[:2:-1]))
            for m in numbers_for(device, tests):
                try:
                    self.assertIs(shows_proves(device, tests, m, proves(other, tests, m)), True)
                    self.assertEqual(needless(other, tests, m), needless(device, tests, m))
                except Long:
                    self.assertRaises(Long, proves, device, tests, m)

    def test_nothing_is_changed(self):
        device, tests = Device(LAMP.text), Tests(ENOUGH.text)
        for _ in range(2):
            for m in (0, 1, 2, 3):
                for call in (proves, needless):
                    try:
                        self.assertTrue(same(call(device, tests, m), call(LAMP, ENOUGH, m)))
                    except BoxError:
                        pass
            self.assertTrue(same(fooled(device, tests), fooled(LAMP, ENOUGH)))
            self.assertEqual((device, tests), (LAMP, ENOUGH))
            self.assertEqual((tests.rows, tests.nodes), (ENOUGH.rows, ENOUGH.nodes))


if __name__ == '__main__':
    unittest.main()
