"""Points 3 and 5: parting, alike, shows_alike."""

import random
import unittest

from looks import Plain, first_parting, right_alike, same
from raising import Raising
from toldboxes.devices import Device
from toldboxes.errors import NoState, OtherCalls
from toldboxes.likeness import alike, parting, shows_alike
from values import LAMP, THREE, any_values, random_text, renamed, some_variants


def some_pairs(seed, many):
    """Two devices with the same calls and answers."""
    rnd = random.Random(seed)
    for turn in range(many):
        calls = rnd.sample(['a', 'b', 'c'], rnd.randint(1, 3))
        answers = rnd.sample(['x', 'y', 'z'], 2 if turn % 2 else rnd.randint(2, 3))
        one = Device(random_text(rnd, calls, answers, rnd.randint(1, 4)))
        if turn % 3:
            yield one, Device(random_text(rnd, calls, answers, rnd.randint(1, 4)))
        else:
            places = [(state, call) for state in one.states for call in calls]
            state, call = rnd.choice(places)
            yield one, one.turned(state, call, one.row(state, call)[0], rnd.choice(one.states))


class TestParting(Raising, unittest.TestCase):
    def test_by_a_look(self):
        for device, _ in some_pairs(1, 200):
            plain = Plain(device.text)
            for state in device.states:
                for other in device.states:
                    walk = first_parting(plain, plain, state, other)
                    self.assertEqual(parting(device=device, state=state, other=other), walk)

    def test_the_first_walk_of_several(self):
        text = 'calls b a\nanswers x y\nstates p q\nrow p a x p\nrow p b x p\nrow q a y q\nrow q b y q'
        self.assertEqual(parting(Device(text), 'p', 'q'), ('b',))
        text = 'calls b a\nanswers x y\nstates p q\nrow p a x p\nrow p b x p\nrow q a y q\nrow q b x q'
        self.assertEqual(parting(Device(text), 'p', 'q'), ('a',))

    def test_a_walk_as_long_as_can_be(self):
        text = 'calls a\nanswers x y\nstates p q r s\nrow p a x q\nrow q a x r\nrow r a x s\nrow s a y s'
        self.assertEqual(parting(Device(text), 'p', 'q'), ('a', 'a', 'a'))

    def test_wrong_states(self):
        for value in any_values() + [0, 1, (), 'a', 'x']:
            self.assert_tells(NoState, value, parting, LAMP, value, value)
            self.assert_tells(NoState, value, parting, LAMP, value, 'p')
            self.assert_tells(NoState, value, parting, LAMP, 'p', value)
        self.assert_tells(NoState, 'z1', parting, LAMP, 'z1', 'z2')


class TestAlike(Raising, unittest.TestCase):
    def test_by_a_look(self):
        words = set()
        for one, other in some_pairs(2, 300):
            told = alike(one=one, other=other)
            words.add(told[0])
            self.assertTrue(right_alike(Plain(one.text), Plain(other.text), told), told)
            self.assertIs(shows_alike(one=one, other=other, value=told), True)
        self.assertEqual(words, {'alike', 'apart'})

    def test_with_itself(self):
        self.assertEqual(alike(LAMP, LAMP), ('alike', (('p', 'p'), ('q', 'q'))))
        far = Device('calls a\nanswers x y\nstates p q\nrow p a x p\nrow q a y q')
        self.assertEqual(alike(far, far), ('alike', (('p', 'p'),)))

    def test_as_long_as_can_be(self):
        chain = Device('calls a\nanswers x y\nstates p q r s\nrow p a x q\nrow q a x r\nrow r a x s\nrow s a x p')
        other = chain.turned('s', 'a', 'y', 'p')
        self.assertEqual(alike(chain, other), ('apart', ('a',) * 4))
        three = Device('calls a\nanswers x y\nstates p q r\nrow p a x q\nrow q a x r\nrow r a y p')
        four = Device('calls a\nanswers x y\nstates p q r s\nrow p a x q\nrow q a x r\nrow r a y s\nrow s a x q')
        self.assertEqual(alike(three, four)[0], 'alike')
        self.assertEqual(alike(three, four.turned('q', 'a', 'x', 's')), ('apart', ('a',) * 3))
        long = Device('calls a\nanswers x y\nstates p q r s\nrow p a x q\nrow q a x r\nrow r a y s\nrow s a x p')
        self.assertEqual(alike(three, long), ('apart', ('a',) * 6))

    def test_other_calls(self):
        words = ['calls a b\nanswers y x', 'calls b a\nanswers x y', 'calls a\nanswers x y', 'calls a b c\nanswers x y',
                 'calls a b\nanswers x y z', 'calls a c\nanswers x y']
        rows = '\nrow p a x p\nrow p b x p'
        others = []
        for word in words:
            calls = word.split('\n')[0].split(' ')[1:]
            others.append(Device(word + '\nstates p' + ''.join(f'\nrow p {call} x p' for call in calls)))
        self.assertEqual(alike(Device('calls a b\nanswers x y\nstates p' + rows), LAMP)[0], 'apart')
        for value in any_values() + others + [0, 1, (), LAMP.text]:
            if value is not LAMP and value is not THREE:
                self.assert_tells(OtherCalls, value, alike, LAMP, value)
                self.assert_tells(OtherCalls, value, shows_alike, LAMP, value, value)
                self.assert_tells(OtherCalls, value, shows_alike, LAMP, value, ('apart', ('a',)))


class TestShowsAlike(unittest.TestCase):
    def test_any_values(self):
        for value in any_values() + [0, 1, (), ('alike',), ('apart',), ('alike', ()), ('apart', ()), ('apart', None)]:
            self.assertIs(shows_alike(LAMP, THREE, value), False)
            self.assertIs(shows_alike(LAMP, LAMP.begun('q'), value), False)

    def test_what_is_right_but_for_one_part(self):
        rnd = random.Random(3)
        right = wrong = 0
        for one, other in [(LAMP, THREE), (LAMP, LAMP.begun('q')), *some_pairs(4, 25)]:
            for value in some_variants(alike(one, other), 300, rnd.random()):
                expected = right_alike(Plain(one.text), Plain(other.text), value)
                self.assertIs(shows_alike(one, other, value), expected, value)
                right += expected
                wrong += not expected
        self.assertGreater(right, 5)
        self.assertGreater(wrong, 1000)

    def test_a_longer_walk(self):
        self.assertIs(shows_alike(LAMP, LAMP.begun('q'), ('apart', ('a',))), True)
        self.assertIs(shows_alike(LAMP, LAMP.begun('q'), ('apart', ('a', 'a'))), False)
        self.assertIs(shows_alike(LAMP, LAMP.begun('q'), ('apart', ('b',))), False)
        self.assertIs(shows_alike(LAMP, LAMP.begun('q'), ('apart', ['a'])), False)
        self.assertIs(shows_alike(LAMP, LAMP.begun('q'), ['apart', ('a',)]), False)

    def test_another_walk_of_the_same_length(self):
        both = LAMP.turned('q', 'b', 'x', 'q').turned('p', 'b', 'y', 'p')
        self.assertEqual(alike(both, both.begun('q')), ('apart', ('a',)))
        self.assertIs(shows_alike(both, both.begun('q'), ('apart', ('b',))), True)

    def test_a_great_value_handed_in(self):
        value = alike(LAMP, THREE)
        for _ in range(20):
            value = (value, value)
        self.assertIs(shows_alike(LAMP, THREE, value), False)
        self.assertIs(shows_alike(LAMP, THREE, ('alike', alike(LAMP, THREE)[1] * 3)), False)


class TestNames(unittest.TestCase):
    def test_other_names(self):
        names = {'calls': {'a': 'q', 'b': 'p'}, 'answers': {'x': 'b', 'y': 'a'},
                 'states': {'p': 'z', 'q': 'a', 'u': 's1', 'v': 's0', 'w': 'a'}}
        one, other = [Device(renamed(device.text, names)) for device in (LAMP, THREE)]
        states = names['states']
        pairs = sorted((states[left], states[right]) for left, right in alike(LAMP, THREE)[1])
        self.assertTrue(same(alike(one, other), ('alike', tuple(pairs))))
        self.assertEqual(parting(one, 'z', 'a'), ('q',))

    def test_other_sequences_of_lines_and_states(self):
        for one, other in some_pairs(5, 100):
            lines = other.text.split('\n')
            states = ' '.join(['states', other.states[0], *other.states[:0:-1]])
            turned = Device('\n'.join(lines[:2] + [states] + lines[:2:-1]))
            self.assertEqual(alike(one, turned), alike(one, other))
            self.assertEqual(alike(turned, one), alike(other, one))

    def test_nothing_is_changed(self):
        one, other = Device(LAMP.text), Device(THREE.text)
        for _ in range(2):
            self.assertEqual(alike(one, other), alike(LAMP, THREE))
            self.assertEqual((one, other), (LAMP, THREE))


if __name__ == '__main__':
    unittest.main()
