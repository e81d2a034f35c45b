"""Points 2, 3, 8 and 10: judged, first_open, rows_told, answers_sure, rows_sure."""

import itertools
import random
import unittest

from looks import (
    Plain, Said, agreeing, any_cases, any_tests, first_parting, heard_by_all, is_node, right_cases, right_device,
    rows_agreeing, same, walks_to,
)
from raising import Raising
from toldboxes.devices import Device
from toldboxes.errors import Against, BadNumber, BadWalk, BoxError, Few, Long, OtherCalls
from toldboxes.forms import come, least
from toldboxes.judging import answers_sure, first_open, judged, rows_sure, rows_told, shows_judged
from toldboxes.proving import proves
from toldboxes.records import Tests, asked
from toldboxes.sortings import sortings
from values import (
    ENOUGH, FEW, LAMP, OTHER_HEADS, STEADY, THREE, any_values, random_text, random_walks, renamed, some_variants,
)

NONE = Tests('calls a b\nanswers x y')
ONE_CALL = Tests('calls a\nanswers x y\ntest a x a y')
THREE_CALLS = Tests('calls a b c\nanswers x y\ntest a x b y c x')


def right_heard_end(said, walk, answers, place, value):
    """Whether any tuple is an end by which the walk is answered so."""
    if not same(value, ('heard',)):
        return False
    come_to = 0
    for at, call in enumerate(walk):
        behind = [node + (call,) for node in place if place[node] == come_to and is_node(said, node + (call,))]
        behind = [node for node in behind if said.told[node] == answers[at]]
        if at < len(walk) - 1:
            behind = [node for node in behind if node in place]
        if not behind:
            return False
        come_to = place.get(behind[0])
    return True


def right_judged(said, m, walk, heard, value):
    """heard is the set of the answers of all devices that agree."""
    if type(value) is not tuple or not value:
        return False
    if same(value[0], 'none'):
        return len(value) == 2 and not heard and right_cases(said, m, value[1])
    if len(value) != 3:
        return False
    if same(value[0], 'open'):
        one, other = [right_device(said, text, m) for text in value[1:]]
        return one is not None and other is not None and one.heard(walk) != other.heard(walk)
    if not same(value[0], 'always') or len(heard) != 1 or not same(value[1], list(heard)[0]):
        return False
    return right_cases(said, m, value[2], lambda place, end: right_heard_end(said, walk, value[1], place, end))


def ended(rnd, paper):
    """Cases in which some parts, at any places, are ends."""
    if rnd.random() < 0.25:
        return ('heard',)
    if paper[0] != 'cases':
        return paper
    return paper[:2] + (tuple(ended(rnd, part) for part in paper[2]),)


def numbers_for(tests):
    return (1, 2, 3) if len(tests.calls) == 3 else (1, 2, 3, 4)


def some_cases(seed, many):
    """Devices and tests that agree with them, and any further walks."""
    rnd = random.Random(seed)
    for turn in range(many):
        calls = rnd.sample(['a', 'b', 'c'], rnd.choice((1, 1, 2, 2, 2, 3)))
        answers = rnd.sample(['x', 'y', 'z'], 2 if turn % 4 else 3)
        device = Device(random_text(rnd, calls, answers, rnd.randint(1, 3)))
        if turn % 3 == 0:
            walks = tuple(itertools.product(calls, repeat={1: 8, 2: 4, 3: 3}[len(calls)]))
        elif turn % 3 == 1:
            walks = tuple(itertools.product(calls, repeat={1: 4, 2: 2, 3: 2}[len(calls)]))
        else:
            walks = random_walks(rnd, calls, rnd.randint(0, 6), 5)
        yield device, asked(device, walks), (), *random_walks(rnd, calls, 3, 6)


class TestJudged(Raising, unittest.TestCase):
    def test_wrong_numbers(self):
        for tests in (FEW, THREE_CALLS):
            for value in any_values() + [0, 5, (), '2', (2,), True] + ([4] if tests is THREE_CALLS else []):
                self.assert_tells(BadNumber, value, judged, tests, value, ('zz',))
                self.assert_tells(BadNumber, value, shows_judged, tests, value, ('zz',), None)

    def test_wrong_walks(self):
        bad = any_values() + [0, 'a', ['a'], ('c',), ('a', 0), ('a', None), ('a',) * 25, ('a', 'b', ('a',))]
        for value in bad:
            for m in (1, 2, 4):
                self.assert_tells(BadWalk, value, judged, FEW, m, value)
                self.assert_tells(BadWalk, value, shows_judged, FEW, m, value, ('none', ()))
        self.assert_tells(BadWalk, ('b',), judged, ONE_CALL, 2, ('b',))

    def test_names_of_arguments(self):
        told = judged(tests=FEW, m=2, walk=('a', 'b'))
        self.assertEqual(told, judged(FEW, 2, ('a', 'b')))
        self.assertIs(shows_judged(tests=FEW, m=2, walk=('a', 'b'), value=told), True)

    def test_by_all_devices(self):
        counted = {}
        rnd = random.Random(1)
        for turn in range(120):
            calls = rnd.sample(['a', 'b', 'c'], rnd.randint(1, 3))
            tests = Tests(any_tests(rnd, calls, ['x', 'y', 'z'][:2 + turn % 2], rnd.randint(0, 4), 4))
            said = Said(tests.text)
            top = {1: 4 if len(said.answers) == 2 else 3, 2: 2, 3: 1}[len(calls)]
            for m in range(1, top + 1):
                for walk in ((), *random_walks(rnd, calls, 2, 5)):
                    heard = {device.heard(walk) for device in agreeing(said, m)}
                    self.check(tests, m, walk, heard, counted)
        for word in ('none', 'always', 'open'):
            self.assertGreater(counted[word], 20)

    def test_greater_ones(self):
        counted = {}
        for _, tests, *walks in some_cases(2, 55):
            for m in numbers_for(tests):
                for walk in walks:
                    self.check(tests, m, walk, heard_by_all(Said(tests.text), m, walk), counted)
        for word in ('none', 'always', 'open', 'long'):
            self.assertGreater(counted[word], 10)

    def check(self, tests, m, walk, heard, counted):
        try:
            told = judged(tests, m, walk)
        except Long as long:
            self.assertEqual(long.value, 600)
            self.assertEqual(len(heard), 1)
            self.assertRaises(Long, sortings, tests, m)
            self.assert_tells(Long, 600, shows_judged, tests, m, walk, ('none', ()))
            counted['long'] = counted.get('long', 0) + 1
            return
        counted[told[0]] = counted.get(told[0], 0) + 1
        self.assertEqual(told[0], 'none' if not heard else 'always' if len(heard) == 1 else 'open')
        self.assertTrue(right_judged(Said(tests.text), m, walk, heard, told), told)
        self.assertIs(shows_judged(tests, m, walk, told), True)

    def test_none_and_24_calls(self):
        for m in (1, 2, 3, 4):
            self.assertEqual(judged(NONE, m, ()), ('always', (), ('heard',)))
            self.assertEqual(judged(NONE, m, ('a',) * 24)[0], 'open')
            self.assertIs(shows_judged(NONE, m, (), ('always', (), ('heard',))), True)
        self.assertEqual(judged(ENOUGH, 2, ('a', 'b') * 12)[:2], ('always', LAMP.heard(('a', 'b') * 12)))
        self.assertEqual(judged(FEW, 1, ())[0], 'none')
        self.assertEqual(judged(FEW, 1, ('a',) * 24)[0], 'none')

    def test_nothing_fits(self):
        paper = ('cases', ('a',), (('torn', (), ('a',), ('a',)),))
        self.assertIs(shows_judged(FEW, 1, ('b',), ('none', paper)), True)
        for value in (('always', ('y',), paper), ('always', (), paper), ('none', ('heard',)), ('none', paper, ()),
                      ('open', LAMP.text, THREE.text)):
            self.assertIs(shows_judged(FEW, 1, ('b',), value), False)
        self.assertIs(shows_judged(FEW, 1, (), ('always', (), paper)), False)
        self.assertIs(shows_judged(FEW, 1, (), ('always', (), ('heard',))), False)

    def test_long(self):
        weak = asked(STEADY, tuple(itertools.product('ab', repeat=3)))
        for walk in ((), ('a',), ('a', 'b', 'b')):
            self.assert_tells(Long, 600, judged, weak, 4, walk)
            self.assert_tells(Long, 600, shows_judged, weak, 4, walk, ('always', STEADY.heard(walk), ('heard',)))
            self.assertEqual(judged(weak, 2, walk)[:2], ('always', STEADY.heard(walk)))
        told = judged(weak, 4, ('a',) * 5)
        self.assertEqual(told[0], 'open')
        self.assertIs(shows_judged(weak, 4, ('a',) * 5, told), True)

    def test_a_row_that_is_told_otherwise_by_others(self):
        tests = Tests('calls a\nanswers x y\ntest a x a x a x a x a y')
        end = ('heard',)
        self.assertEqual(judged(tests, 4, ('a', 'a')), judged(tests, 4, ('a', 'a')))
        torn = ('torn', (), ('a', 'a', 'a', 'a'), ('a',))
        for m in (1, 2, 3, 4):
            self.assertEqual(judged(tests, m, ('a', 'a'))[0], 'none')
            self.assertIs(shows_judged(tests, m, ('a',), ('none', end)), False)
        self.assertIs(shows_judged(tests, 1, ('a', 'a'), ('none', ('cases', ('a',), (torn,)))), True)


class TestShowsJudged(unittest.TestCase):
    def test_any_values(self):
        for value in any_values() + [0, 1, (), ('none',), ('always',), ('open',), ('always', ()), ('none', ()), 'none']:
            for tests, m, walk in ((FEW, 1, ('a',)), (FEW, 2, ('a',)), (FEW, 2, ('a', 'b'))):
                told = judged(tests, m, walk)
                self.assertIs(shows_judged(tests, m, walk, value), False)
                self.assertIs(shows_judged(tests, m, walk, told + (value,)), False)
                for at in range(len(told)):
                    if value != told[at]:
                        self.assertIs(shows_judged(tests, m, walk, told[:at] + (value,) + told[at + 1:]), False)

    def test_what_is_right_but_for_one_part(self):
        rnd = random.Random(3)
        counted = {True: 0, False: 0}
        for _, tests, *walks in [(0, FEW, (), ('b', 'a', 'a'), ('a', 'b')), *some_cases(4, 28)]:
            said = Said(tests.text)
            for m in numbers_for(tests)[:3]:
                for walk in walks[:3]:
                    heard = heard_by_all(said, m, walk)
                    try:
                        told = judged(tests, m, walk)
                    except Long:
                        continue
                    if len(repr(told)) > 2000:
                        continue
                    for value in some_variants(told, 60, rnd.random()):
                        expected = right_judged(said, m, walk, heard, value)
                        self.assertIs(shows_judged(tests, m, walk, value), expected, (tests.text, m, walk, value))
                        counted[expected] += 1
        self.assertGreater(counted[True], 50)
        self.assertGreater(counted[False], 3000)

    def test_cases_that_others_made(self):
        rnd = random.Random(5)
        counted = {True: 0, False: 0}
        words = set()
        for _, tests, *walks in some_cases(6, 90):
            said = Said(tests.text)
            for m in numbers_for(tests)[:3]:
                for walk in walks[:2]:
                    heard = heard_by_all(said, m, walk)
                    if len(heard) > 1 or len(said.nodes) > 14:
                        continue
                    value = any_cases(rnd, said, m, lambda place: ('heard',))
                    if len(repr(value)) > 2000:
                        continue
                    value = ('always', list(heard)[0], value) if heard else ('none', value)
                    self.assertTrue(right_judged(said, m, walk, heard, value))
                    self.assertIs(shows_judged(tests, m, walk, value), True)
                    words.add(value[0])
                    for other in some_variants(value, 40, rnd.random()):
                        expected = right_judged(said, m, walk, heard, other)
                        self.assertIs(shows_judged(tests, m, walk, other), expected, (tests.text, m, walk, other))
                        counted[expected] += 1
        self.assertEqual(words, {'always', 'none'})
        self.assertGreater(counted[True], 50)
        self.assertGreater(counted[False], 500)

    def test_ends_at_any_places(self):
        rnd = random.Random(13)
        counted = {True: 0, False: 0}
        for _, tests, *walks in [(0, FEW, ('b', 'a', 'a'), ('b', 'a')), *some_cases(14, 120)]:
            said = Said(tests.text)
            for m in numbers_for(tests)[:3]:
                for walk in walks:
                    heard = heard_by_all(said, m, walk)
                    if len(heard) != 1 or len(said.nodes) > 20 or len(walk) < 2:
                        continue
                    paper = any_cases(rnd, said, m, lambda place: ('heard',))
                    if len(repr(paper)) > 4000:
                        continue
                    for _ in range(6):
                        value = ('always', list(heard)[0], ended(rnd, paper))
                        expected = right_judged(said, m, walk, heard, value)
                        self.assertIs(shows_judged(tests, m, walk, value), expected, (tests.text, m, walk, value))
                        counted[expected] += 1
        self.assertGreater(min(counted.values()), 100, counted)

    def test_ends(self):
        self.assertEqual(judged(FEW, 2, ('b', 'a', 'a'))[:2], ('always', ('y', 'x', 'y')))
        for m in (1, 2, 3, 4):
            right = ('always', ('x',), ('heard',))
            self.assertIs(shows_judged(FEW, m, ('a',), right), m > 1)
            for end in (('heard', ()), ('heard',) * 2, ['heard'], 'heard', ('head',), (('heard',),), ('alike', ('p',)), ()):
                self.assertIs(shows_judged(FEW, m, ('a',), ('always', ('x',), end)), False)
        # Two calls: where nothing is said of the node behind the first one, it is not an end.
        split = ('cases', ('a',), (('torn', (), ('a',), ('a',)), ('heard',)))
        self.assertIs(shows_judged(FEW, 2, ('a', 'a'), ('always', ('x', 'y'), split)), True)
        self.assertIs(shows_judged(FEW, 2, ('a', 'a'), ('always', ('x', 'y'), ('heard',))), False)
        self.assertIs(shows_judged(FEW, 2, ('a', 'a'), ('always', ('x', 'x'), split)), False)
        self.assertIs(shows_judged(FEW, 2, ('a', 'a'), ('always', ('x',), split)), False)
        self.assertIs(shows_judged(FEW, 2, ('a', 'a'), ('always', ['x', 'y'], split)), False)

    def test_an_end_where_something_is_torn(self):
        # By the first class a node is torn: an end may stand there, too, if the walk is answered so by some node.
        split = ('cases', ('a',), (('heard',), ('heard',)))
        self.assertIs(shows_judged(FEW, 2, ('a',), ('always', ('x',), split)), True)
        self.assertIs(shows_judged(FEW, 2, ('a', 'a'), ('always', ('x', 'y'), split)), True)
        self.assertIs(shows_judged(FEW, 2, ('b',), ('always', ('y',), split)), True)
        self.assertIs(shows_judged(FEW, 2, ('b', 'a'), ('always', ('y', 'x'), split)), False)

    def test_open_devices(self):
        other = LAMP.turned('q', 'b', 'x', 'q').text
        self.assertIs(shows_judged(FEW, 2, ('a', 'b'), ('open', LAMP.text, other)), True)
        self.assertIs(shows_judged(FEW, 2, ('a', 'b'), ('open', other, LAMP.text)), True)
        self.assertIs(shows_judged(FEW, 2, ('a', 'b'), ('open', LAMP.text, LAMP.text)), False)
        self.assertIs(shows_judged(FEW, 2, ('a', 'b'), ('open', LAMP.text)), False)
        self.assertIs(shows_judged(FEW, 2, ('a', 'b'), ('open', LAMP, Device(other))), False)
        self.assertIs(shows_judged(FEW, 2, ('a', 'b'), ('open', LAMP.text, LAMP.begun('q').text)), False)
        self.assertIs(shows_judged(FEW, 2, ('a',), ('open', LAMP.text, other)), False)
        self.assertIs(shows_judged(FEW, 3, ('a', 'b'), ('open', THREE.text, other)), True)
        self.assertIs(shows_judged(FEW, 2, ('a', 'b'), ('open', THREE.text, other)), False)


class TestErrors(Raising, unittest.TestCase):
    def test_other_calls(self):
        for heads in OTHER_HEADS:
            tests = Tests(heads)
            for call in (first_open, answers_sure, rows_sure):
                for m in (0, 1, 2, None):
                    self.assert_tells(OtherCalls, tests, call, LAMP, tests, m)
            self.assert_tells(OtherCalls, tests, rows_told, LAMP, tests)

    def test_against(self):
        both = Tests('calls a b\nanswers x y\ntest b y\ntest a x a x\ntest a x a x b x')
        for device, tests, number in ((LAMP.begun('q'), FEW, 0), (LAMP, both, 1)):
            for call in (first_open, answers_sure, rows_sure):
                for m in (0, 1, 2, 3, None, 'a'):
                    self.assert_tells(Against, number, call, device, tests, m)
            self.assert_tells(Against, number, rows_told, device, tests)

    def test_numbers(self):
        three_calls = asked(Device('calls a b c\nanswers x y\nstates s\nrow s a x s\nrow s b x s\nrow s c x s'), ())
        device = Device('calls a b c\nanswers x y\nstates s\nrow s a x s\nrow s b x s\nrow s c x s')
        for call in (first_open, answers_sure, rows_sure):
            for value in any_values() + [0, 5, (), '2', (2,), True]:
                self.assert_tells(BadNumber, value, call, LAMP, ENOUGH, value)
            self.assert_tells(BadNumber, 4, call, device, three_calls, 4)
            self.assertIsNotNone(call(device, three_calls, 3))

    def test_few(self):
        chain = Device('calls a\nanswers x y\nstates p q r s\nrow p a x q\nrow q a x r\nrow r a x s\nrow s a y s')
        for call in (first_open, answers_sure, rows_sure):
            for device, many in ((LAMP, 2), (THREE, 2), (chain, 4), (chain.begun('q'), 3)):
                tests = asked(device, (('a', 'a'),))
                for m in range(1, many):
                    self.assert_tells(Few, many, call, device, tests, m)
                call(device, tests, many)

    def test_long(self):
        weak = asked(STEADY, tuple(itertools.product('ab', repeat=3)))
        for call in (first_open, answers_sure, rows_sure):
            self.assert_tells(Long, 600, call, STEADY, weak, 4)
            call(STEADY, weak, 3)
            # Long is raised here also where it is not proved.
            self.assert_tells(Long, 600, call, STEADY, asked(STEADY, tuple(itertools.product('ab', repeat=4))), 4)

    def test_names_of_arguments(self):
        self.assertEqual(first_open(device=LAMP, tests=FEW, m=2), ('a', 'b'))
        self.assertEqual(rows_told(device=LAMP, tests=FEW), rows_told(LAMP, FEW))
        self.assertEqual(answers_sure(device=LAMP, tests=FEW, m=2), answers_sure(LAMP, FEW, 2))
        self.assertEqual(rows_sure(device=LAMP, tests=FEW, m=2), ())


def first_walk_to(device, state):
    """The first walk of a plain device to a state; None if it is not come to."""
    for walk in walks_to(device.calls, len(device.states) - 1):
        if device.go(walk)[1] == state:
            return walk
    return None


def row_walks(device):
    """For each row of a state that is come to the first walk there, with the call behind it."""
    found = []
    for state in device.states:
        walk = first_walk_to(device, state)
        if walk is not None:
            found += [((state, call), walk + (call,)) for call in device.calls]
    return found


class TestByAllDevices(unittest.TestCase):
    """Each device of few states that agrees, gone through."""

    def some(self, seed, many):
        for device, tests, *_ in some_cases(seed, many):
            plain, said = Plain(device.text), Said(tests.text)
            top = {1: 4 if len(said.answers) == 2 else 3, 2: 2, 3: 1}[len(said.calls)]
            for m in range(len(least(device)), top + 1):
                yield device, tests, m, plain, agreeing(said, m)

    def test_first_open(self):
        counted = {}
        for device, tests, m, plain, others in self.some(7, 150):
            walks = [first_parting(plain, other) for other in others]
            walks = [walk for walk in walks if walk is not None]
            expected = min(walks, key=lambda walk: (len(walk), [plain.calls.index(call) for call in walk]), default=None)
            self.assertTrue(same(first_open(device, tests, m), expected))
            if expected is not None:
                self.assertLess(len(expected), m + len(least(device)))
            self.assertEqual(expected is None, proves(device, tests, m)[0] == 'proved')
            counted[expected is None] = counted.get(expected is None, 0) + 1
        self.assertGreater(min(counted[True], counted[False]), 20)

    def test_answers_and_rows_sure(self):
        counted = [0, 0, 0]
        for device, tests, m, plain, others in self.some(8, 180):
            answers, rows = [], []
            for row, walk in row_walks(plain):
                alike = [other for other in others if other.heard(walk) == plain.heard(walk)]
                if len(alike) == len(others):
                    answers.append(row)
                    states = plain.go(walk)[1]
                    if all(first_parting(plain, other, states, other.go(walk)[1]) is None for other in others):
                        rows.append(row)
            self.assertTrue(same(answers_sure(device, tests, m), tuple(answers)))
            self.assertTrue(same(rows_sure(device, tests, m), tuple(rows)))
            counted[0] += len(rows)
            counted[1] += len(answers) - len(rows)
            counted[2] += len(row_walks(plain)) - len(answers)
        self.assertGreater(min(counted), 20)

    def test_rows_told(self):
        for device, tests, *_ in some_cases(9, 100):
            plain = Plain(device.text)
            told = set()
            for row in tests.rows:
                state = plain.states[0]
                for call, _ in row:
                    told.add((state, call))
                    state = plain.rows[state, call][1]
            rows = tuple(row for row in itertools.product(plain.states, plain.calls) if row in told)
            self.assertTrue(same(rows_told(device, tests), rows))
        self.assertEqual(rows_told(LAMP, NONE), ())


def opened(device, rows):
    """The first walk that device answers otherwise than a device with these rows may; None if there is none."""
    pairs = [(device.states[0], 0, ())]
    for state, place, walk in pairs:
        for call in device.calls:
            answer, goal = device.rows[state, call]
            told = rows.get((place, call))
            if told is None or told[0] != answer:
                return walk + (call,)
            if (goal, told[1]) not in [pair[:2] for pair in pairs]:
                pairs.append((goal, told[1], walk + (call,)))
    return None


def goes_as(device, rows, walk, further):
    """Whether devices with these rows answer the walk as device does; further: also whatever is called behind it."""
    state, place = device.states[0], 0
    for call in walk:
        answer, goal = device.rows[state, call]
        told = rows.get((place, call))
        if told is None or told[0] != answer:
            return False
        state, place = goal, told[1]
    if not further:
        return True
    begun = Plain('\n'.join([f'calls {" ".join(device.calls)}', f'answers {" ".join(device.answers)}',
                             ' '.join(['states', state, *[name for name in device.states if name != state]]),
                             *[f'row {s} {c} {a} {g}' for (s, c), (a, g) in device.rows.items()]]))
    return opened(begun, {(turned(at, place), call): (answer, turned(goal, place)) for (at, call), (answer, goal) in rows.items()}) is None


def turned(at, place):
    """Numbers by which place and 0 are exchanged."""
    return {place: 0, 0: place}.get(at, at)


class TestByAllGreaterDevices(unittest.TestCase):
    def test_all(self):
        counted = {'long': 0, 'open': 0, None: 0}
        for device, tests, *_ in some_cases(10, 90):
            plain, said = Plain(device.text), Said(tests.text)
            for m in range(len(least(device)), 4 if len(said.calls) == 3 else 5):
                try:
                    walk = first_open(device, tests, m)
                except Long:
                    self.assertRaises(Long, sortings, tests, m)
                    counted['long'] += 1
                    continue
                found = list(rows_agreeing(said, m))
                walks = [opened(plain, rows) for rows in found]
                walks = [one for one in walks if one is not None]
                expected = min(walks, key=lambda one: (len(one), [plain.calls.index(call) for call in one]), default=None)
                self.assertEqual(walk, expected)
                counted[None if walk is None else 'open'] += 1
                for further, call in ((False, answers_sure), (True, rows_sure)):
                    rows = [row for row, way in row_walks(plain) if all(goes_as(plain, known, way, further) for known in found)]
                    self.assertEqual(call(device, tests, m), tuple(rows))
        self.assertGreater(min(counted.values()), 10, counted)


class TestEdges(unittest.TestCase):
    def test_states_that_are_not_come_to(self):
        device = Device('calls a\nanswers x y\nstates q p r\nrow q a x q\nrow p a y r\nrow r a x p')
        tests = asked(device, (('a',) * 3,))
        self.assertEqual(rows_told(device, tests), (('q', 'a'),))
        self.assertEqual(answers_sure(device, tests, 2), (('q', 'a'),))
        self.assertEqual(rows_sure(device, tests, 2), (('q', 'a'),))
        self.assertEqual(rows_sure(device, tests, 4), ())
        self.assertEqual(answers_sure(device, tests, 4), (('q', 'a'),))
        self.assertIsNone(first_open(device, tests, 3))
        self.assertEqual(first_open(device, tests, 4), ('a',) * 4)

    def test_alike_states_in_the_sequence_of_states(self):
        device = THREE.begun('v')
        tests = asked(device, (('a', 'b', 'a'), ('b', 'b', 'a', 'a')))
        self.assertEqual(rows_told(device, tests), (('v', 'a'), ('v', 'b'), ('u', 'a'), ('w', 'a'), ('w', 'b')))
        self.assertEqual([row[0] for row in answers_sure(device, tests, 2)], sorted(
            [row[0] for row in answers_sure(device, tests, 2)], key=device.states.index))

    def test_no_tests_at_all(self):
        for m in (1, 2, 3, 4):
            self.assertEqual(first_open(STEADY, NONE, m), ('a',))
            self.assertEqual(rows_told(STEADY, NONE), ())
            self.assertEqual(answers_sure(STEADY, NONE, m), ())
            self.assertEqual(rows_sure(STEADY, NONE, m), ())


class TestNames(unittest.TestCase):
    NAMES = {'calls': {'a': 'q', 'b': 'calls'}, 'answers': {'x': 'none', 'y': 'a'},
             'states': {'p': 'torn', 'q': 'a', 'u': 's1', 'v': 's0', 'w': 'cases'}}

    def test_other_names(self):
        words, states = self.NAMES['calls'], self.NAMES['states']
        for device, tests in ((LAMP, FEW), (LAMP, ENOUGH), (THREE, ENOUGH), (THREE, FEW)):
            other, others = Device(renamed(device.text, self.NAMES)), Tests(renamed(tests.text, self.NAMES))
            for m in (2, 3, 4):
                for walk in ((), ('a',), ('a', 'b', 'a'), ('b', 'b')):
                    try:
                        told = judged(tests, m, walk)
                    except Long:
                        continue
                    walk = tuple(words[call] for call in walk)
                    self.assertEqual(judged(others, m, walk)[0], told[0])
                    self.assertIs(shows_judged(others, m, walk, judged(others, m, walk)), True)
                try:
                    walk = first_open(device, tests, m)
                except Long:
                    continue
                self.assertEqual(first_open(other, others, m), walk and tuple(words[call] for call in walk))
                for call in (answers_sure, rows_sure):
                    rows = tuple((states[state], words[asked_for]) for state, asked_for in call(device, tests, m))
                    self.assertEqual(call(other, others, m), rows)

    def test_fewer_and_more(self):
        rnd = random.Random(11)
        kept = 0
        for device, tests, *walks in some_cases(12, 40):
            more = tests.more(asked(device, random_walks(rnd, device.calls, 1, 6)).rows[0])
            for m in numbers_for(tests)[1:]:
                for walk in walks:
                    try:
                        told = judged(tests, m, walk)
                    except Long:
                        continue
                    if told[0] == 'always':
                        for fewer, others in ((m - 1, tests), (m, more)):
                            try:
                                again = judged(others, fewer, walk)
                            except Long:
                                continue
                            self.assertIn(again[:2], (told[:2], ('none', again[1])))
                            kept += 1
        self.assertGreater(kept, 100)

    def test_nothing_is_changed(self):
        device, tests = Device(LAMP.text), Tests(ENOUGH.text)
        for _ in range(2):
            for m in (0, 1, 2, 3):
                for call in (first_open, answers_sure, rows_sure):
                    try:
                        self.assertTrue(same(call(device, tests, m), call(LAMP, ENOUGH, m)))
                    except BoxError:
                        pass
            self.assertTrue(same(judged(tests, 2, ('a', 'b')), judged(ENOUGH, 2, ('a', 'b'))))
            self.assertEqual(rows_told(device, tests), tuple((state, call) for state in come(LAMP) for call in 'ab'))
            self.assertEqual((device, tests), (LAMP, ENOUGH))
            self.assertEqual((tests.rows, tests.nodes), (ENOUGH.rows, ENOUGH.nodes))


if __name__ == '__main__':
    unittest.main()
