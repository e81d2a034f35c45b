"""Points 2, 3 and 19: Watch, safe, verdict."""

import itertools
import random
import unittest

from looks import Guard, bad_watch, same
from raising import Raising
from toldboxes.errors import BadLog, BadWatch
from toldboxes.records import Tests
from toldboxes.watches import Watch, safe, verdict
from values import CALM, FEW, HALF, LAMP, WATCH, any_values, bad_logs, variants, watch_text

HEADS = 'calls a b\nanswers x y'


def some_watches(seed, many):
    """Watches of one to four marks, with no steps up to all."""
    rnd = random.Random(seed)
    for turn in range(many):
        calls = rnd.sample(['a', 'b', 'c'], rnd.randint(1, 3))
        answers = rnd.sample(['x', 'y', 'z'], 2 if turn % 3 else 3)
        yield watch_text(rnd, calls, answers, 1 + turn % 4, rnd.choice((0, 1, 3, 6, 99)), rnd.choice((0, 0.1, 0.4)))


def some_logs(rnd, watch, many):
    """Logs of none to 24 steps."""
    for _ in range(many):
        length = rnd.choice((0, 1, 2, 3, 5, 24))
        yield tuple((rnd.choice(watch.calls), rnd.choice(watch.answers)) for _ in range(length))


class TestWatch(Raising, unittest.TestCase):
    def test_what_is_no_string(self):
        for value in any_values():
            if not isinstance(value, str):
                self.assert_tells(BadWatch, 0, Watch, value)

    def test_heads(self):
        for text, number in (('', 1), ('calls a b', 2), ('calls a b\n', 2), (HEADS, 3), (HEADS + '\n', 3),
                             (HEADS + '\nmarks', 3), (HEADS + '\nmarks broken', 3), (HEADS + '\nmarks i broken', 3),
                             (HEADS + '\nmarks i j k l m', 3), (HEADS + '\nmarks i i', 3), (HEADS + '\nmark i', 3),
                             (HEADS + '\nmarks i\n', 4), ('marks i\n' + HEADS, 1), (HEADS + '\nmarks I', 3),
                             (HEADS + '\nstates i', 3), (HEADS + '\nmarks nine99999', 3), ('calls a\nanswers x\nmarks i', 2),
                             ('calls a b c d\nanswers x y\nmarks broken', 1),
                             ('calls a\nanswers w x y z\nmarks i', 2), (HEADS + '\nmarks i ', 3)):
            self.assert_tells(BadWatch, number, Watch, text)
        for marks in ('i', 'i j k l', 'broke', 'broken1', 'step', 'marks a x', 'eight888'):
            self.assertEqual(len(Watch(f'{HEADS}\nmarks {marks}')), len(marks.split(' ')))

    def test_steps(self):
        good = HEADS + '\nmarks i j\nstep i a x j'
        self.assertEqual(len(Watch(good)), 2)
        for bad in ('step i a x i', 'step i a x broken', 'step broken a x i', 'step k a x i', 'step i c x i', 'step i a z i',
                    'step i a y k', 'step i a y', 'step i a y i i', 'step  i a y i', ' step i a y i', 'step i a y i ',
                    'steps i a y i', 'row i a y i', '', 'step', 'step i y a i', 'step i a y Broken'):
            self.assert_tells(BadWatch, 5, Watch, good + '\n' + bad)
            self.assert_tells(BadWatch, 6, Watch, good + '\nstep j a y broken\n' + bad + '\nstep')
        for line in ('step i a y broken', 'step j a x j', 'step i b x i'):
            Watch(good + '\n' + line)

    def test_texts_with_any_change(self):
        rnd = random.Random(1)
        counted = {}
        for text in some_watches(2, 600):
            signs = list(text)
            for _ in range(rnd.randint(0, 2)):
                at = rnd.randrange(len(signs))
                signs[at:at + rnd.randint(0, 2)] = rnd.choice(['', ' ', '\n', 'a', 'x', 'i', '1', 'step', 'A', 'broken'])
            text = ''.join(signs)
            number = bad_watch(text)
            if number is None:
                self.assertEqual(Watch(text).text, text)
            else:
                self.assert_tells(BadWatch, number, Watch, text)
            counted[number is None] = counted.get(number is None, 0) + 1
        self.assertGreater(min(counted.values()), 100)
        for text in variants(WATCH.text, ()):
            if type(text) is str and bad_watch(text) is not None:
                self.assert_tells(BadWatch, bad_watch(text), Watch, text)

    def test_what_they_have(self):
        self.assertEqual((WATCH.calls, WATCH.answers, WATCH.marks, len(WATCH)), (('a', 'b'), ('x', 'y'), ('idle', 'on'), 2))
        self.assertEqual(WATCH.text.split('\n')[3:], ['step idle a x on', 'step idle a y broken', 'step on a y idle',
                                                      'step on a x broken'])
        self.assertEqual((CALM.marks, len(CALM)), (('one',), 1))

    def test_which_are_marks(self):
        for value in any_values() + ['broken', 'idle ', ('idle',), ['on'], 'calls', 'a']:
            self.assertIs(value in WATCH, False)
        for mark in ('idle', 'on'):
            self.assertIs(mark in WATCH, True)
            self.assertIs(mark in CALM, False)

    def test_equal(self):
        self.assertTrue(WATCH == Watch(WATCH.text))
        self.assertFalse(WATCH != Watch(WATCH.text))
        turned = WATCH.text.split('\n')
        turned = '\n'.join(turned[:3] + turned[:2:-1])
        for other in any_values() + [HALF, WATCH.text, WATCH.marks, Watch(turned), Watch(WATCH.text + '\nstep on b x on')]:
            self.assertFalse(WATCH == other)
            self.assertTrue(WATCH != other)

    def test_other_operators(self):
        for call in (lambda: WATCH < WATCH, lambda: WATCH + WATCH, lambda: WATCH - 1, lambda: WATCH[0]):
            self.assertRaises(TypeError, call)


class TestBehind(Raising, unittest.TestCase):
    def test_bad_logs(self):
        for value in bad_logs():
            for watch in (WATCH, HALF, CALM):
                self.assert_tells(BadLog, value, watch.behind, value)
                self.assert_tells(BadLog, value, verdict, watch, value)

    def test_by_a_look(self):
        rnd = random.Random(3)
        counted = {}
        for text in some_watches(4, 200):
            watch, guard = Watch(text), Guard(text)
            for log in some_logs(rnd, watch, 8):
                self.assertTrue(same(watch.behind(log), guard.go(log)), (text, log))
                mark = guard.go(log)
                expected = 'broken' if mark == 'broken' else 'safe' if mark in guard.safe() else 'held'
                self.assertTrue(same(verdict(watch, log), expected), (text, log))
                counted[expected] = counted.get(expected, 0) + 1
        for word in ('broken', 'safe', 'held'):
            self.assertGreater(counted[word], 100)

    def test_24_and_25_steps(self):
        log = (('a', 'x'), ('a', 'y')) * 12
        self.assertEqual(WATCH.behind(log), 'idle')
        self.assertEqual(WATCH.behind(log[:-1] + (('a', 'x'),)), 'broken')
        self.assert_tells(BadLog, log + log[:1], WATCH.behind, log + log[:1])
        self.assert_tells(BadLog, log + log[:1], verdict, WATCH, log + log[:1])

    def test_once_broken_it_stays_so(self):
        for log in ((('a', 'y'),), (('a', 'y'), ('a', 'x')), (('a', 'y'), ('b', 'x'), ('a', 'y'))):
            self.assertEqual(WATCH.behind(log), 'broken')
            self.assertEqual(verdict(WATCH, log), 'broken')

    def test_steps_that_are_not_told(self):
        self.assertEqual(WATCH.behind(()), 'idle')
        self.assertEqual(WATCH.behind((('b', 'x'), ('b', 'y'))), 'idle')
        self.assertEqual(WATCH.behind((('a', 'x'), ('b', 'y'), ('b', 'x'))), 'on')
        self.assertEqual(CALM.behind((('a', 'x'), ('b', 'y')) * 12), 'one')

    def test_names_of_arguments(self):
        self.assertEqual(Watch(text=WATCH.text).behind(log=(('a', 'x'),)), 'on')
        self.assertEqual(safe(watch=WATCH), ())
        self.assertEqual(verdict(watch=WATCH, log=()), 'held')


class TestSafe(unittest.TestCase):
    def test_by_a_look(self):
        counted = set()
        for text in some_watches(5, 600):
            watch, guard = Watch(text), Guard(text)
            self.assertTrue(same(safe(watch), guard.safe()), text)
            counted.add((len(watch), len(guard.safe())))
            # All short logs from each mark: such as break are not safe.
            if len(watch.calls) * len(watch.answers) <= 4:
                for mark in watch.marks:
                    steps = itertools.product(watch.calls, watch.answers)
                    logs = itertools.product(list(steps), repeat=len(watch))
                    broken = any(guard.go(log, mark) == 'broken' for log in logs)
                    self.assertEqual(broken, mark not in safe(watch))
        for many in (1, 2, 3, 4):
            self.assertIn((many, 0), counted)
            self.assertIn((many, many), counted)
        self.assertTrue({(2, 1), (3, 1), (3, 2), (4, 1), (4, 3)} <= counted, counted)

    def test_examples(self):
        self.assertEqual((safe(WATCH), safe(HALF), safe(CALM)), ((), ('calm',), ('one',)))
        self.assertEqual(verdict(HALF, (('b', 'x'),)), 'safe')
        self.assertEqual(verdict(HALF, (('a', 'x'), ('b', 'x'))), 'held')
        self.assertEqual(verdict(CALM, ()), 'safe')
        chain = Watch(HEADS + '\nmarks i j k l\nstep i a x j\nstep j a x k\nstep k a x l\nstep l a x broken')
        self.assertEqual(safe(chain), ())
        chain = Watch(HEADS + '\nmarks l k j i\nstep l a x k\nstep k a x j\nstep j a y broken')
        self.assertEqual(safe(chain), ('i',))

    def test_other_names(self):
        names = {'a': 'step', 'b': 'marks', 'x': 'q', 'y': 'b', 'first': 'one', 'calm': 'two', 'third': 'a', 'broken': 'broken'}
        lines = [line.split(' ') for line in HALF.text.split('\n')]
        other = Watch('\n'.join(' '.join([line[0]] + [names[word] for word in line[1:]]) for line in lines))
        self.assertEqual(safe(other), ('two',))
        for log in ((), (('a', 'x'), ('b', 'x')), (('b', 'x'),), (('a', 'x'), ('a', 'y')), (('a', 'x'),)):
            turned = tuple((names[call], names[answer]) for call, answer in log)
            self.assertEqual(other.behind(turned), names[HALF.behind(log)])
            self.assertEqual(verdict(other, turned), verdict(HALF, log))

    def test_nothing_is_changed(self):
        watch, log = Watch(HALF.text), (('a', 'x'),)
        for _ in range(2):
            self.assertEqual((watch.behind(log), safe(watch), verdict(watch, log)), ('third', ('calm',), 'held'))
            self.assertEqual((watch, log), (HALF, (('a', 'x'),)))
        self.assertFalse(FEW == HALF or LAMP == HALF or HALF == Tests(HEADS))


if __name__ == '__main__':
    unittest.main()
