"""Points 2 and 4: devices."""

import operator
import random
import unittest

from looks import Plain, bad_device
from raising import Raising
from toldboxes.devices import Device
from toldboxes.errors import BadDevice, BadWalk, NoAnswer, NoCall, NoState
from toldboxes.records import Tests
from values import FEW, LAMP, THREE, any_values, random_text

TEXT = LAMP.text
LINES = TEXT.split('\n')


def with_line(number, line):
    """The lamp with another line; lines are numbered from 1."""
    return '\n'.join(LINES[:number - 1] + [line] + LINES[number:])


def one_state(calls, answers):
    """A text with one state and rows for all calls."""
    rows = [f'row s {call} {answers[0]} s' for call in calls]
    return '\n'.join([' '.join(['calls', *calls]), ' '.join(['answers', *answers]), 'states s', *rows])


class TestText(Raising, unittest.TestCase):
    def test_attributes(self):
        self.assertEqual(LAMP.text, TEXT)
        self.assertEqual(LAMP.calls, ('a', 'b'))
        self.assertEqual(LAMP.answers, ('x', 'y'))
        self.assertEqual(LAMP.states, ('p', 'q'))
        for names in (LAMP.calls, LAMP.answers, LAMP.states):
            self.assertIs(type(names), tuple)

    def test_what_is_no_string(self):
        for value in any_values() + [0, 1, ()]:
            if not isinstance(value, str):
                self.assert_tells(BadDevice, 0, Device, value)

    def test_numbers_of_names(self):
        for calls in (('a',), ('a', 'b'), ('a', 'b', 'c')):
            for answers in (('x', 'y'), ('x', 'y', 'z')):
                device = Device(one_state(calls, answers))
                self.assertEqual((device.calls, device.answers, device.states), (calls, answers, ('s',)))
        self.assert_tells(BadDevice, 1, Device, one_state(('a', 'b', 'c', 'd'), ('x', 'y')))
        self.assert_tells(BadDevice, 1, Device, with_line(1, 'calls'))
        self.assert_tells(BadDevice, 2, Device, one_state(('a',), ('x',)))
        self.assert_tells(BadDevice, 2, Device, one_state(('a',), ('x', 'y', 'z', 'w')))
        self.assert_tells(BadDevice, 2, Device, with_line(2, 'answers'))
        self.assert_tells(BadDevice, 3, Device, with_line(3, 'states'))

    def test_numbers_of_states(self):
        rnd = random.Random(1)
        for many in (1, 2, 3, 4):
            self.assertEqual(len(Device(random_text(rnd, ('a',), ('x', 'y'), many))), many)
        self.assert_tells(BadDevice, 3, Device, random_text(rnd, ('a',), ('x', 'y'), 5))

    def test_names(self):
        for name in ('eight888', 'a', 'z9', 'zzzzzzzz', 'a0123456'):
            device = Device(one_state((name, 'a1'), ('x', name)).replace('states s', f'states s {name}')
                            + f'\nrow {name} {name} {name} s\nrow {name} a1 x {name}')
            self.assertEqual((device.calls, device.answers, device.states), ((name, 'a1'), ('x', name), ('s', name)))
            self.assertEqual(device.row(name, name), (name, 's'))
        for name in ('nine99999', '', '1', '1a', 'A', 'aB', 'a_', 'a-b', 'a.', 'a\t', '_a', 'a~', '`', '{', 'a{', 'a/', 'a:'):
            self.assert_tells(BadDevice, 1, Device, one_state(('c', name), ('x', 'y')))
            self.assert_tells(BadDevice, 2, Device, one_state(('c',), ('x', name)))
            self.assert_tells(BadDevice, 3, Device, with_line(3, f'states p {name}'))

    def test_names_that_stand_twice(self):
        self.assert_tells(BadDevice, 1, Device, one_state(('a', 'a'), ('x', 'y')))
        self.assert_tells(BadDevice, 1, Device, one_state(('a', 'b', 'a'), ('x', 'y')))
        self.assert_tells(BadDevice, 2, Device, one_state(('a',), ('x', 'x')))
        self.assert_tells(BadDevice, 2, Device, one_state(('a',), ('x', 'y', 'y')))
        self.assert_tells(BadDevice, 3, Device, with_line(3, 'states p p'))

    def test_names_that_are_words_of_lines(self):
        text = 'calls calls row\nanswers answers row\nstates row calls\n' + '\n'.join([
            'row row row row calls', 'row row calls answers row', 'row calls row answers row',
            'row calls calls row calls'])
        device = Device(text)
        self.assertEqual(device.row('row', 'row'), ('row', 'calls'))
        self.assertEqual(device.row('calls', 'row'), ('answers', 'row'))
        self.assertEqual(device.heard(('row', 'calls')), ('row', 'row'))
        turned = device.turned('row', 'calls', 'row', 'calls')
        self.assertEqual(turned.text, text.replace('row row calls answers row', 'row row calls row calls'))
        self.assertEqual(device.begun('calls').text, text.replace('states row calls', 'states calls row'))

    def test_call_answer_and_state_of_one_name(self):
        device = Device('calls a b\nanswers a b\nstates a b\nrow a a a b\nrow a b b a\nrow b a b a\nrow b b a b')
        self.assertEqual(device.heard(('a', 'a', 'b')), ('a', 'b', 'b'))
        self.assertEqual(device.behind(('a', 'b')), 'b')

    def test_lines_out_twice_exchanged(self):
        for number in range(1, 8):
            less = LINES[:number - 1] + LINES[number:]
            self.assert_tells(BadDevice, number if number <= 3 else 7, Device, '\n'.join(less))
            twice = LINES[:number] + LINES[number - 1:]
            self.assert_tells(BadDevice, number + 1, Device, '\n'.join(twice))
            at_the_end = LINES + [LINES[number - 1]]
            self.assert_tells(BadDevice, 8, Device, '\n'.join(at_the_end))
        self.assert_tells(BadDevice, 1, Device, '\n'.join([LINES[1], LINES[0], *LINES[2:]]))
        self.assert_tells(BadDevice, 2, Device, '\n'.join([LINES[0], LINES[2], LINES[1], *LINES[3:]]))
        self.assert_tells(BadDevice, 3, Device, '\n'.join([*LINES[:2], LINES[3], LINES[2], *LINES[4:]]))
        self.assertEqual(Device('\n'.join(LINES[:3] + LINES[:2:-1])).heard(('a', 'a')), ('x', 'y'))

    def test_a_second_row_with_other_words(self):
        self.assert_tells(BadDevice, 5, Device, with_line(5, 'row p a y p'))
        self.assert_tells(BadDevice, 8, Device, TEXT + '\nrow q b x p')

    def test_missing_lines(self):
        self.assert_tells(BadDevice, 1, Device, '')
        for many in range(1, 7):
            self.assert_tells(BadDevice, many + 1, Device, '\n'.join(LINES[:many]))

    def test_blanks_and_line_feeds_more(self):
        self.assert_tells(BadDevice, 8, Device, TEXT + '\n')
        self.assert_tells(BadDevice, 1, Device, '\n' + TEXT)
        self.assert_tells(BadDevice, 1, Device, '\n')
        for number in range(1, 8):
            line = LINES[number - 1]
            for bad in (' ' + line, line + ' ', line.replace(' ', '  ', 1), line.replace(' ', '\t', 1), line + '\r', ''):
                self.assert_tells(BadDevice, number, Device, with_line(number, bad))

    def test_rows_that_cannot_stand(self):
        for bad in ('row p a x', 'row p a x q q', 'row', 'rows p a x q', 'Row p a x q', 'row z a x q', 'row p z x q',
                    'row p a z q', 'row p a x z', 'row a p x q', 'p a x q', 'row p a q x', 'row p a x Q'):
            self.assert_tells(BadDevice, 4, Device, with_line(4, bad))
            self.assert_tells(BadDevice, 7, Device, with_line(7, bad))

    def test_the_first_bad_line_is_told(self):
        self.assert_tells(BadDevice, 2, Device, 'calls a\nanswers x\nstates')
        self.assert_tells(BadDevice, 4, Device, '\n'.join(LINES[:3] + ['row p a x z', 'row p b y z']))
        self.assert_tells(BadDevice, 3, Device, 'calls a\nanswers x y\nstates 1')

    def test_texts_with_any_change(self):
        rnd = random.Random(4)
        for turn in range(3000):
            calls = ('a', 'b', 'c')[:rnd.randint(1, 3)]
            signs = list(random_text(rnd, calls, ('x', 'y'), rnd.randint(1, 4)))
            for _ in range(rnd.randint(0, 2)):
                at = rnd.randrange(len(signs))
                signs[at:at + rnd.randint(0, 2)] = rnd.choice(['', ' ', '\n', 'a', 'x', 'p', '1', 'row', 'A'])
            text = ''.join(signs)
            number = bad_device(text)
            if number is None:
                self.assertEqual(Device(text).text, text)
            else:
                self.assert_tells(BadDevice, number, Device, text)


class TestMethods(Raising, unittest.TestCase):
    def test_row(self):
        self.assertEqual(LAMP.row('p', 'a'), ('x', 'q'))
        self.assertEqual(LAMP.row(state='q', call='b'), ('y', 'q'))
        self.assert_tells(NoState, 'a', LAMP.row, 'a', 'a')
        self.assert_tells(NoCall, 'p', LAMP.row, 'p', 'p')
        for value in any_values() + [0, 1, ()]:
            self.assert_tells(NoState, value, LAMP.row, value, value)
            self.assert_tells(NoState, value, LAMP.row, value, 'a')
            self.assert_tells(NoCall, value, LAMP.row, 'p', value)

    def test_heard_and_behind(self):
        self.assertEqual(LAMP.heard(()), ())
        self.assertEqual(LAMP.behind(()), 'p')
        self.assertEqual(LAMP.heard(walk=('a', 'b', 'a', 'a')), ('x', 'y', 'y', 'x'))
        self.assertEqual(LAMP.behind(walk=('a', 'b')), 'q')
        rnd = random.Random(2)
        for _ in range(200):
            calls = ('b', 'a', 'c')[:rnd.randint(1, 3)]
            text = random_text(rnd, calls, ('y', 'x'), rnd.randint(1, 4))
            walk = tuple(rnd.choice(calls) for _ in range(rnd.randint(0, 24)))
            heard, behind = Plain(text).go(walk)
            self.assertEqual((Device(text).heard(walk), Device(text).behind(walk)), (heard, behind))

    def test_lengths_of_walks(self):
        walk = ('a', 'b') * 12
        self.assertEqual(len(LAMP.heard(walk)), 24)
        self.assertEqual(LAMP.behind(walk), 'p')
        for method in (LAMP.heard, LAMP.behind):
            self.assert_tells(BadWalk, walk + ('a',), method, walk + ('a',))

    def test_what_is_no_walk(self):
        for method in (LAMP.heard, LAMP.behind):
            for value in any_values() + [0, 1, 'a', 'ab', ['a', 'b'], ('a', 'x'), ('a', ('a',)), ('a', True), ('p',)]:
                self.assert_tells(BadWalk, value, method, value)

    def test_begun(self):
        self.assertEqual(THREE.begun('v').text.split('\n')[2], 'states v u w')
        self.assertEqual(THREE.begun('w').text.split('\n')[2], 'states w u v')
        self.assertEqual(THREE.begun(state='u'), THREE)
        for state in THREE.states:
            begun = THREE.begun(state)
            self.assertIs(type(begun), Device)
            self.assertEqual([line for at, line in enumerate(begun.text.split('\n')) if at != 2],
                             [line for at, line in enumerate(THREE.text.split('\n')) if at != 2])
            self.assertEqual(begun.heard(('a', 'b', 'a', 'a')), Plain(THREE.text).heard(('a', 'b', 'a', 'a'), state))
        for value in any_values() + [0, 1, (), 'a', 'x']:
            self.assert_tells(NoState, value, LAMP.begun, value)

    def test_turned(self):
        turned = LAMP.turned('q', 'b', 'x', 'p')
        self.assertEqual(turned.text, TEXT.replace('row q b y q', 'row q b x p'))
        self.assertEqual(LAMP.turned(state='p', call='a', answer='x', goal='q'), LAMP)
        backwards = Device('\n'.join(LINES[:3] + LINES[:2:-1]))
        self.assertEqual(backwards.turned('q', 'a', 'x', 'q').text, backwards.text.replace('row q a y p', 'row q a x q'))
        self.assertEqual(LAMP.text, TEXT)

    def test_turned_takes_whole_names(self):
        text = 'calls a ab\nanswers x xy\nstates p pa\nrow pa ab x p\nrow pa a x p\nrow p ab x p\nrow p a x p'
        self.assertEqual(Device(text).turned('p', 'a', 'xy', 'pa').text, text[:-len('row p a x p')] + 'row p a xy pa')

    def test_turned_raises_in_its_sequence(self):
        self.assert_tells(NoState, 'z1', LAMP.turned, 'z1', 'z2', 'z3', 'z4')
        self.assert_tells(NoCall, 'z2', LAMP.turned, 'p', 'z2', 'z3', 'z4')
        self.assert_tells(NoAnswer, 'z3', LAMP.turned, 'p', 'a', 'z3', 'z4')
        self.assert_tells(NoState, 'z4', LAMP.turned, 'p', 'a', 'x', 'z4')
        for value in any_values() + [0, 1, ()]:
            self.assert_tells(NoState, value, LAMP.turned, value, 'a', 'x', 'q')
            self.assert_tells(NoCall, value, LAMP.turned, 'p', value, 'x', 'q')
            self.assert_tells(NoAnswer, value, LAMP.turned, 'p', 'a', value, 'q')
            self.assert_tells(NoState, value, LAMP.turned, 'p', 'a', 'x', value)

    def test_len_and_in(self):
        self.assertEqual([len(LAMP), len(THREE)], [2, 3])
        self.assertIs('p' in LAMP, True)
        self.assertIs('a' in LAMP, False)
        for value in any_values() + [0, 1, (), 'x', ('p',), 'p q', ['p']]:
            self.assertIs(value in LAMP, False)

    def test_equality(self):
        self.assertTrue(Device(TEXT) == LAMP)
        self.assertFalse(Device(TEXT) != LAMP)
        exchanged = Device('\n'.join(LINES[:3] + LINES[:2:-1]))
        for value in any_values() + [0, 1, TEXT, exchanged, THREE]:
            if value is not LAMP:
                self.assertIs(LAMP == value, False)
                self.assertIs(value == LAMP, False)
                self.assertIs(LAMP != value, True)

    def test_other_operators(self):
        for operate in (operator.lt, operator.le, operator.gt, operator.ge, operator.add, operator.sub, operator.mul,
                        operator.mod, operator.and_, operator.or_, operator.xor, operator.floordiv, operator.lshift):
            for other in (LAMP, Device(TEXT), FEW, None, 1, {}, []):
                self.assertRaises(TypeError, operate, LAMP, other)
        self.assertRaises(TypeError, operator.add, LAMP, 'a')
        self.assertRaises(TypeError, operator.neg, LAMP)
        self.assertRaises(TypeError, operator.getitem, LAMP, 0)
        self.assertRaises(TypeError, operator.getitem, LAMP, 'p')

    def test_nothing_is_changed_and_equal_calls_tell_the_same(self):
        device = Device(TEXT)
        for _ in range(2):
            self.assertEqual(device.begun('q'), Device(TEXT).begun('q'))
            self.assertEqual(device.turned('q', 'a', 'y', 'q'), Device(TEXT).turned('q', 'a', 'y', 'q'))
            self.assertEqual(device.heard(('a', 'a')), ('x', 'y'))
            self.assertRaises(NoState, device.begun, 'z')
            self.assertEqual(device, LAMP)
            self.assertEqual((device.calls, device.answers, device.states), (('a', 'b'), ('x', 'y'), ('p', 'q')))

    def test_the_name_of_the_text(self):
        self.assertEqual(Device(text=TEXT), LAMP)
        self.assertFalse(LAMP == Tests('calls a b\nanswers x y'))


if __name__ == '__main__':
    unittest.main()
