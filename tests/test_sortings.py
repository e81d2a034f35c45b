"""Points 2, 3, 7 and 8: sortings, fits, and cases without ends."""

import itertools
import random
import unittest

import looks
from looks import Plain, Said, agreeing, any_cases, any_tests, right_fits, same
from raising import Raising
from toldboxes.devices import Device
from toldboxes.errors import BadNumber, BoxError, Long
from toldboxes.records import Tests, asked
from toldboxes.sortings import fits, nth_sorting, shows_fits, sortings
from values import (
    ENOUGH, FEW, LAMP, ONE_MORE, SIX_HUNDRED, STEADY, any_values, random_text, random_walks, renamed, some_variants,
)

NONE = Tests('calls a b\nanswers x y')
ONE_CALL = Tests('calls a\nanswers x y\ntest a x a y')
THREE_CALLS = Tests('calls a b c\nanswers x y\ntest a x b y c x')
WEAK = asked(STEADY, tuple(itertools.product('ab', repeat=3)))


def some_tests(seed, many):
    """Tests of few nodes, by devices and by nobody."""
    rnd = random.Random(seed)
    for turn in range(many):
        calls = rnd.sample(['a', 'b', 'c'], rnd.randint(1, 3))
        answers = rnd.sample(['x', 'y', 'z'], 2 if turn % 4 else 3)
        if turn % 2:
            device = Device(random_text(rnd, calls, answers, rnd.randint(1, 3)))
            yield asked(device, random_walks(rnd, calls, rnd.randint(0, 3), 4))
        else:
            yield Tests(any_tests(rnd, calls, answers, rnd.randint(0, 3), 4))


def numbers_for(tests):
    return (1, 2, 3) if len(tests.calls) == 3 else (1, 2, 3, 4)


def renumbered(classes):
    """Classes numbered as they first come."""
    first = []
    for number in classes:
        if number not in first:
            first.append(number)
    return tuple(first.index(number) for number in classes)


class TestNumbers(Raising, unittest.TestCase):
    def test_which_numbers(self):
        for tests in (FEW, NONE, ONE_CALL, THREE_CALLS):
            for m in numbers_for(tests):
                self.assertGreaterEqual(sortings(tests, m), 0)
                self.assertIn(fits(tests, m)[0], ('device', 'none'))
                shows_fits(tests, m, None)
            if sortings(tests, 1) > 0:
                self.assertEqual(nth_sorting(tests, 1, 0), (0,) * len(tests.nodes))
        others = any_values() + [0, 5, (), '1', (1,), [2], True, 4]
        for tests in (FEW, THREE_CALLS):
            for value in others[:-1] if tests is FEW else others:
                self.assert_tells(BadNumber, value, sortings, tests, value)
                self.assert_tells(BadNumber, value, nth_sorting, tests, value, value)
                self.assert_tells(BadNumber, value, nth_sorting, tests, value, 0)
                self.assert_tells(BadNumber, value, fits, tests, value)
                self.assert_tells(BadNumber, value, shows_fits, tests, value, None)
                self.assert_tells(BadNumber, value, shows_fits, tests, value, ('device', LAMP.text))

    def test_names_of_arguments(self):
        self.assertEqual(sortings(tests=FEW, m=2), 2)
        self.assertEqual(nth_sorting(tests=FEW, m=2, number=1), (0, 1, 0, 1, 1))
        self.assertEqual(fits(tests=FEW, m=2), fits(FEW, 2))
        self.assertIs(shows_fits(tests=FEW, m=2, value=fits(FEW, 2)), True)


class TestSortings(Raising, unittest.TestCase):
    def test_by_a_look(self):
        counted = set()
        for tests in some_tests(1, 150):
            said = Said(tests.text)
            for m in numbers_for(tests):
                found = looks.sortings(said, m)
                counted.add(len(found))
                if len(found) > 600:
                    self.assert_tells(Long, 600, sortings, tests, m)
                    continue
                self.assertEqual(sortings(tests, m), len(found))
                told = [nth_sorting(tests, m, number) for number in range(len(found))][:40]
                self.assertTrue(same(told, found[:40]))
                if found:
                    self.assertEqual(nth_sorting(tests, m, len(found) - 1), found[-1])
        self.assertGreater(len(counted), 20)
        self.assertIn(0, counted)

    def test_no_tests_at_all(self):
        for tests in (NONE, Tests('calls a\nanswers x y'), Tests('calls a b c\nanswers x y z')):
            for m in numbers_for(tests):
                self.assertEqual(sortings(tests, m), 1)
                self.assertEqual(nth_sorting(tests, m, 0), (0,))

    def test_none(self):
        self.assertEqual(sortings(FEW, 1), 0)
        self.assert_tells(BadNumber, 0, nth_sorting, FEW, 1, 0)

    def test_six_hundred(self):
        for tests, m in SIX_HUNDRED:
            self.assertEqual(len(looks.sortings(Said(tests.text), m)), 600)
            self.assertEqual(sortings(tests, m), 600)
            self.assertEqual(nth_sorting(tests, m, 599), looks.sortings(Said(tests.text), m)[599])
            self.assert_tells(BadNumber, 600, nth_sorting, tests, m, 600)

    def test_more_than_six_hundred(self):
        for tests, m in ONE_MORE:
            self.assertEqual(len(looks.sortings(Said(tests.text), m)), 601)
            self.assert_tells(Long, 600, sortings, tests, m)
            for number in (0, 600, 601, None, 'a'):
                self.assert_tells(Long, 600, nth_sorting, tests, m, number)
            self.assertLess(sortings(tests, m - 1), 600)
        self.assert_tells(Long, 600, sortings, WEAK, 4)

    def test_wrong_numbers(self):
        for value in any_values() + [2, -1, (), '0', (0,), True, False]:
            self.assert_tells(BadNumber, value, nth_sorting, FEW, 2, value)

    def test_each_device_that_agrees_comes_of_one(self):
        for tests in some_tests(2, 60):
            said = Said(tests.text)
            most = 4 if len(said.calls) == 1 and len(said.answers) == 2 else 2
            if len(said.calls) == 3:
                most = 1
            ways = looks.sortings(said, most)
            met = set()
            for device in agreeing(said, most):
                states = [device.go(node)[1] for node in said.nodes]
                met.add(renumbered(states))
            if most < 4 and len(ways) <= 600:
                self.assertEqual(sorted(met), [nth_sorting(tests, most, at) for at in range(sortings(tests, most))])
            self.assertEqual(sorted(met), ways)

    def test_with_further_tests_each_sorting_is_one_of_those_ahead(self):
        rnd = random.Random(3)
        for _ in range(60):
            device = Device(random_text(rnd, ['a', 'b'], ['x', 'y'], 2))
            tests = asked(device, random_walks(rnd, ['a', 'b'], 2, 3))
            row = asked(device, random_walks(rnd, ['a', 'b'], 1, 4)).rows[0]
            more = tests.more(row)
            for m in (2, 3):
                try:
                    told = [nth_sorting(more, m, number) for number in range(sortings(more, m))]
                    ahead = [nth_sorting(tests, m, number) for number in range(sortings(tests, m))]
                except Long:
                    continue
                for classes in told:
                    place = dict(zip(more.nodes, classes))
                    self.assertIn(renumbered([place[node] for node in tests.nodes]), ahead)


class TestFits(unittest.TestCase):
    def test_by_all_devices(self):
        words = set()
        for tests in some_tests(4, 120):
            said = Said(tests.text)
            most = {1: 4 if len(said.answers) == 2 else 3, 2: 2, 3: 1}[len(said.calls)]
            for m in range(1, most + 1):
                told = fits(tests, m)
                words.add(told[0])
                self.assertEqual(told[0], 'device' if agreeing(said, m) else 'none')
                self.assertTrue(right_fits(said, m, told), told)
                self.assertIs(shows_fits(tests, m, told), True)

    def test_greater_ones(self):
        for tests in some_tests(5, 100):
            for m in numbers_for(tests):
                told = fits(tests, m)
                self.assertTrue(right_fits(Said(tests.text), m, told), told)
                self.assertIs(shows_fits(tests, m, told), True)

    def test_many_nodes(self):
        rnd = random.Random(6)
        for turn in range(30):
            calls = ['a', 'b', 'c'][:rnd.randint(1, 3)]
            device = Device(random_text(rnd, calls, ['x', 'y'], 3))
            tests = asked(device, random_walks(rnd, calls, 20, 10))
            for m in numbers_for(tests):
                told = fits(tests, m)
                self.assertIs(shows_fits(tests, m, told), True)
                if m >= 3:
                    self.assertEqual(told[0], 'device')
                if told[0] == 'device':
                    self.assertTrue(right_fits(Said(tests.text), m, told))

    def test_far_more_than_six_hundred_sortings(self):
        for m in (1, 2, 3, 4):
            self.assertTrue(right_fits(Said(WEAK.text), m, fits(WEAK, m)))
            self.assertEqual(fits(WEAK, m)[0], 'device')
        for tests, m in SIX_HUNDRED + ONE_MORE:
            self.assertTrue(right_fits(Said(tests.text), m, fits(tests, m)))

    def test_no_tests_at_all(self):
        told = fits(NONE, 1)
        self.assertEqual(told[0], 'device')
        self.assertEqual(len(Device(told[1])), 1)

    def test_at_most_so_many_states(self):
        self.assertIs(shows_fits(FEW, 2, ('device', LAMP.text)), True)
        self.assertIs(shows_fits(FEW, 1, ('device', LAMP.text)), False)
        self.assertIs(shows_fits(NONE, 1, ('device', LAMP.text)), False)
        lines = LAMP.text.replace('states p q', 'states p q r s') + '\nrow r a x p\nrow r b x p\nrow s a x p\nrow s b x p'
        self.assertIs(shows_fits(FEW, 4, ('device', lines)), True)
        self.assertIs(shows_fits(FEW, 3, ('device', lines)), False)

    def test_other_calls(self):
        for old, new in (('calls a b', 'calls b a'), ('answers x y', 'answers y x'), ('answers x y', 'answers x y z')):
            self.assertIs(shows_fits(FEW, 2, ('device', LAMP.text.replace(old, new))), False)


class TestCases(unittest.TestCase):
    def test_any_values(self):
        right = fits(FEW, 1)
        for value in any_values() + [0, 1, (), ('none',), ('device',), ('none', ()), ('device', None), right[1]]:
            self.assertIs(shows_fits(FEW, 1, value), False)
            self.assertIs(shows_fits(FEW, 1, ('none', value)), value is right[1])
            self.assertIs(shows_fits(FEW, 2, ('device', value)), False)
            self.assertIs(shows_fits(FEW, 1, (value, right[1])), False)
            self.assertIs(shows_fits(FEW, 1, right + (value,)), False)

    def test_what_is_right_but_for_one_part(self):
        rnd = random.Random(7)
        counted = {True: 0, False: 0}
        for tests in [FEW, ENOUGH, *some_tests(8, 40)]:
            said = Said(tests.text)
            for m in numbers_for(tests)[:3]:
                for value in some_variants(fits(tests, m), 150, rnd.random()):
                    expected = right_fits(said, m, value)
                    self.assertIs(shows_fits(tests, m, value), expected, (tests.text, m, value))
                    counted[expected] += 1
        self.assertGreater(counted[True], 50)
        self.assertGreater(counted[False], 3000)

    def test_cases_that_others_made(self):
        rnd = random.Random(9)
        made = 0
        counted = {True: 0, False: 0}
        for tests in some_tests(10, 150):
            said = Said(tests.text)
            for m in numbers_for(tests)[:3]:
                if fits(tests, m)[0] == 'none':
                    value = 'none', any_cases(rnd, said, m, None)
                    self.assertTrue(right_fits(said, m, value))
                    self.assertIs(shows_fits(tests, m, value), True, value)
                    made += 1
                    for other in some_variants(value, 60, rnd.random()):
                        expected = right_fits(said, m, other)
                        self.assertIs(shows_fits(tests, m, other), expected, (tests.text, m, other))
                        counted[expected] += 1
        self.assertGreater(made, 50)
        self.assertGreater(counted[True], 50)
        self.assertGreater(counted[False], 1000)

    def test_cases_for_another_number(self):
        value = fits(FEW, 1)
        self.assertIs(shows_fits(FEW, 1, value), True)
        for m in (2, 3, 4):
            self.assertIs(shows_fits(FEW, m, value), False)

    def test_ends_are_not_let(self):
        for end in (('alike', ('p',)), ('heard',), ('kept', ()), ('end',), (0,), ('cases',), ('torn',)):
            self.assertIs(shows_fits(NONE, 1, ('none', end)), False)

    def test_something_torn_may_be_gone_on(self):
        torn = ('torn', (), ('a',), ('a',))
        self.assertIs(shows_fits(FEW, 1, ('none', ('cases', ('a',), (torn,)))), True)
        self.assertIs(shows_fits(FEW, 1, ('none', ('cases', ('a',), (('cases', ('b',), (torn,)),)))), True)
        self.assertIs(shows_fits(FEW, 1, ('none', ('cases', ('b',), (('cases', ('a',), (torn,)),)))), True)
        self.assertIs(shows_fits(FEW, 1, ('none', ('cases', ('b',), (torn,)))), False)
        self.assertIs(shows_fits(FEW, 1, ('none', torn)), False)

    def test_nodes_of_which_nothing_is_said_are_not_torn(self):
        torn = ('torn', ('a',), ('b',), ('a',))
        self.assertIs(shows_fits(FEW, 1, ('none', torn)), False)
        self.assertIs(shows_fits(FEW, 1, ('none', ('cases', ('a',), (torn,)))), False)
        self.assertIs(shows_fits(FEW, 1, ('none', ('cases', ('b',), (torn,)))), False)
        self.assertIs(shows_fits(FEW, 1, ('none', ('cases', ('b',), (('cases', ('a',), (torn,)),)))), True)
        for other in (('zz',), ('b', 'b'), 'a', None, ['b']):
            for value in (('torn', other, other, ('a',)), ('torn', ('a',), other, ('a',)), ('torn', other, ('a',), ('a',))):
                self.assertIs(shows_fits(FEW, 1, ('none', value)), False)

    def test_what_is_gone_on_is_not_split(self):
        chain = Tests('calls a\nanswers x y\ntest a x a x a x a x a y')
        torn = ('torn', (), ('a', 'a', 'a', 'a'), ('a',))
        self.assertIs(shows_fits(chain, 1, ('none', ('cases', ('a',), (torn,)))), True)
        self.assertIs(shows_fits(chain, 1, ('none', ('cases', ('a', 'a'), (torn,)))), False)
        split = ('cases', ('a',), (('cases', ('a', 'a'), (torn,)),))
        self.assertIs(shows_fits(chain, 1, ('none', split)), False)
        self.assertIs(shows_fits(chain, 1, ('none', ('cases', ('a',), (('torn', (), ('a', 'a', 'a'), ('a', 'a')),)))), True)

    def test_great_cases(self):
        tests = Tests(any_tests(random.Random(11), ['a', 'b'], ['x', 'y'], 12, 8))
        said = Said(tests.text)
        for m in (1, 2, 3):
            value = fits(tests, m)
            self.assertEqual(value[0], 'none')
            self.assertTrue(right_fits(said, m, value))
            self.assertIs(shows_fits(tests, m, value), True)
        for part in value[1][2]:
            self.assertIs(shows_fits(tests, 3, ('none', part)), False)


class TestNames(unittest.TestCase):
    NAMES = {'calls': {'a': 'row', 'b': 'a', 'c': 'z'}, 'answers': {'x': 'a', 'y': 'test', 'z': 'b'}}

    def test_other_names(self):
        for tests in some_tests(12, 60):
            other = Tests(renamed(tests.text, self.NAMES))
            for m in numbers_for(tests):
                try:
                    many = sortings(tests, m)
                except Long:
                    self.assertRaises(Long, sortings, other, m)
                    continue
                self.assertEqual(sortings(other, m), many)
                if many:
                    self.assertEqual(nth_sorting(other, m, many - 1), nth_sorting(tests, m, many - 1))
                self.assertEqual(fits(other, m)[0], fits(tests, m)[0])

    def test_other_sequences_of_tests(self):
        for tests in some_tests(13, 60):
            lines = tests.text.split('\n')
            other = Tests('\n'.join(lines[:2] + lines[:1:-1]))
            for m in numbers_for(tests):
                if fits(tests, m)[0] == 'none':
                    self.assertEqual(sortings(other, m), 0)
                    self.assertIs(shows_fits(other, m, fits(tests, m)), True)

    def test_nothing_is_changed(self):
        tests = Tests(FEW.text)
        for _ in range(2):
            for m in (1, 2, 3, 4, 5):
                for call in (sortings, fits):
                    try:
                        self.assertTrue(same(call(tests, m), call(FEW, m)))
                    except BoxError:
                        pass
            self.assertEqual(tests, FEW)
            self.assertEqual((tests.rows, tests.walks, tests.nodes), (FEW.rows, FEW.walks, FEW.nodes))

    def test_a_device_agrees_just_if_it_is_heard_so(self):
        for tests in some_tests(14, 40):
            told = fits(tests, numbers_for(tests)[-1])
            if told[0] == 'device':
                self.assertTrue(Said(tests.text).agrees(Plain(told[1])))


if __name__ == '__main__':
    unittest.main()
