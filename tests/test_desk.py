"""Points 2 and 24: Desk."""

import random
import re
import unittest

from looks import same
from raising import Raising
from test_journals import HEADS, LONG, bad_journal
from toldboxes.benches import Bench
from toldboxes.desk import Desk
from toldboxes.errors import (
    BadJournal, BadLine, BadNumber, BadTest, BadWalk, BoxError, Contrary, Full, Long, Many, NoTest, NothingToRedo, NothingToUndo,
    Quarrel,
)
from toldboxes.journals import journal, read_journal
from toldboxes.suites import suite
from values import LAMP, ONE_MORE, any_values, variants

NO_LINES = [
    '', ' ', 'tell', 'tell ', 'tell a', 'tell a x b', 'tell  a x', 'tell a x ', ' tell a x', 'Tell a x', 'tell a  x', 'told a x',
    'test a x', 'drop', 'drop ', 'drop a', 'drop 00', 'drop 0 ', ' drop 0', 'drop  0', 'drop +0', 'drop -0', 'drop 0 0', 'drop 01',
    'drop 1_0', 'limit', 'limit 02', 'limit two', 'limit 2 2', 'limit +2', 'limit 2.0', 'limit - 2', 'most 2', 'deeds', 'keep',
    'undo ', ' undo', 'undo 1', 'Undo', 'undo undo', 'redo ', 'redo 1', 'sure', 'sure ', 'sure  a', 'sure a ', 'sure a  b',
    ' sure a', 'Sure a', 'surely a', 'known ', 'known a', 'most ', 'tests ', 'tests 1', 'test', 'trial', 'next', 'a x', 'done',
    'tell a x\n', '\nundo', 'sure a\n', 'sure a\nb', 'known\n', 'most\n', 'tests\nmost', 'tell a x\ntell b y', 'drop 0\n', 'redo\n',
    'limit 2\n', 'calls a b', HEADS,
]


def form_of(line):
    """The word of a line, if it has one of the forms; None if not."""
    if type(line) is not str:
        return None
    for word, form in (('tell', 'tell( [^ \n]+ [^ \n]+)+'), ('drop', 'drop (0|-?[1-9][0-9]*)'), ('sure', 'sure( [^ \n]+)+'),
                       ('limit', 'limit (0|-?[1-9][0-9]*)'), ('word', 'undo|redo|known|most|tests')):
        if re.fullmatch(form, line):
            return line if word == 'word' else word
    return None


def expected(bench, line):
    """What a line is answered, by doing it on a bench of the tests' own, and reading it another way."""
    words = line.split(' ')
    word = form_of(line)
    if word == 'tell':
        bench.tell(tuple(zip(words[1::2], words[2::2])))
    elif word == 'drop':
        bench.drop(int(words[1]))
    elif word == 'limit':
        bench.limit(int(words[1]))
    elif word in ('undo', 'redo'):
        getattr(bench, word)()
    else:
        return {
            'sure': lambda: ' '.join(bench.sure(tuple(words[1:])) or ['open']),
            'known': lambda: {'device': 'yes', 'open': 'no'}[bench.known()[0]],
            'most': lambda: '%d' % bench.most, 'tests': lambda: '%d' % len(bench),
        }[word]()
    return 'done'


class TestDesk(Raising, unittest.TestCase):
    def test_bad_journals(self):
        for value in any_values():
            if not isinstance(value, str):
                self.assert_tells(BadJournal, 0, Desk, value)
        for text in variants(LONG, ()):
            number = bad_journal(text)[0]
            if number is not None:
                self.assert_tells(BadJournal, number, Desk, text)
        for text, number in (('', 1), (HEADS, 4), (HEADS + '\ndeeds\n', 5), (HEADS + '\ndeeds\ntell a x\ntell a y', 6)):
            self.assert_tells(BadJournal, number, Desk, text)

    def test_the_very_bench(self):
        desk = Desk(LONG)
        bench = desk.bench
        self.assertEqual((bench, type(bench)), (read_journal(LONG), Bench))
        desk.say('limit 4')
        self.assertIs(desk.bench, bench)
        self.assertEqual((bench.most, bench.done), (4, 10))
        bench.limit(3)
        self.assertEqual(desk.say('most'), '3')
        with bench.trial():
            desk.say('drop 0')
            self.assertEqual(desk.say('tests'), '0')
        self.assertEqual(desk.say('tests'), '1')

    def test_lines_without_a_form(self):
        desk = Desk(LONG)
        for value in any_values() + NO_LINES + [0, 1, ('undo',), ['undo'], ('tell', 'a', 'x'), b'undo']:
            self.assert_tells(BadLine, value, desk.say, value)
        self.assertEqual(journal(desk.bench), LONG)

    def test_all_forms(self):
        desk = Desk(HEADS + '\ndeeds')
        for line, answer in (
                ('tests', '0'), ('most', '2'), ('known', 'no'), ('sure a', 'open'), ('tell a x', 'done'), ('sure a', 'x'),
                ('tell b y a x', 'done'), ('tests', '2'), ('limit 1', 'done'), ('most', '1'), ('known', 'yes'),
                ('sure a a b b', 'x x y y'), ('undo', 'done'), ('most', '2'), ('redo', 'done'), ('most', '1'), ('drop 0', 'done'),
                ('tests', '1'), ('known', 'yes'), ('drop 0', 'done'), ('known', 'no'), ('sure a', 'open'), ('undo', 'done'),
                ('undo', 'done'), ('tests', '2'), ('sure a b', 'x y')):
            self.assertTrue(same(desk.say(line), answer), line)
        self.assertEqual(journal(desk.bench), HEADS + '\ndeeds\ntell a x\ntell b y a x\nlimit 1')

    def test_what_the_bench_raises(self):
        desk = Desk(HEADS + '\ndeeds\ntell a x a y')
        for line, error, value in (
                ('tell a y', Quarrel, (0, 1)), ('tell a z', BadTest, (('a', 'z'),)), ('tell c x a x', BadTest, (('c', 'x'), ('a', 'x'))),
                ('tell ! ?', BadTest, (('!', '?'),)), ('tell' + ' a x' * 13, BadTest, (('a', 'x'),) * 13),
                ('drop 1', NoTest, 1), ('drop -1', NoTest, -1), ('drop 123456789', NoTest, 123456789), ('limit 0', BadNumber, 0),
                ('limit 5', BadNumber, 5), ('limit -2', BadNumber, -2), ('redo', NothingToRedo, None), ('sure c', BadWalk, ('c',)),
                ('sure a x', BadWalk, ('a', 'x')), ('sure ?', BadWalk, ('?',)), ('sure' + ' a' * 25, BadWalk, ('a',) * 25),
                ('sure A', BadWalk, ('A',)), ('tell undo redo', BadTest, (('undo', 'redo'),))):
            self.assert_tells(error, value, desk.say, line)
            self.assertEqual(journal(desk.bench), HEADS + '\ndeeds\ntell a x a y')
        self.assertRaises(Contrary, desk.say, 'limit 1')
        desk.say('undo')
        self.assert_tells(NothingToUndo, None, desk.say, 'undo')
        full = Desk(HEADS + '\ndeeds' + '\ntell a x' * 60)
        self.assert_tells(Full, 60, full.say, 'tell a x')

    def test_many_and_long(self):
        desk = Desk(HEADS.replace('most 2', 'most 1') + '\ndeeds')
        rnd = random.Random(1)
        with self.assertRaises(Many) as caught:
            for _ in range(60):
                desk.say(' '.join(['tell'] + [rnd.choice('ab') + ' x' for _ in range(12)]))
        self.assertEqual(caught.exception.value, 200)
        tests, m = ONE_MORE[0]
        desk = Desk(f'calls a b\nanswers x y\nmost {m}\ndeeds')
        for line in tests.text.split('\n')[2:]:
            self.assertEqual(desk.say(line.replace('test', 'tell')), 'done')
        self.assert_tells(Long, 600, desk.say, 'sure ' + ' '.join(tests.walks[0]))
        self.assertEqual(desk.say('known'), 'no')
        desk = Desk(HEADS.replace('most 2', 'most 4') + '\ndeeds')
        for walk in range(16):
            desk.say('tell ' + ' '.join(f'{"ab"[walk >> at & 1]} x' for at in range(4)))
        self.assert_tells(Long, 600, desk.say, 'known')

    def test_any_lines(self):
        rnd = random.Random(2)
        lines = ['tell a x', 'tell a x a y', 'tell b y', 'tell b y a x', 'drop 0', 'drop 1', 'limit 1', 'limit 2', 'limit 3',
                 'undo', 'undo', 'redo', 'known', 'sure a', 'sure a b', 'sure b a a', 'most', 'tests', 'tell a y']
        lines += [' '.join(['tell'] + [f'{call} {answer}' for call, answer in row]) for row in suite(LAMP, 0).rows] * 3
        said = {}
        for _ in range(120):
            desk, bench = Desk(HEADS + '\ndeeds'), Bench(HEADS)
            for line in rnd.choices(lines, k=12):
                try:
                    answer = expected(bench, line)
                except BoxError as error:
                    self.assert_tells(type(error), error.value, desk.say, line)
                    continue
                self.assertTrue(same(desk.say(line), answer), line)
                self.assertEqual(desk.bench, bench)
                said[answer] = said.get(answer, 0) + 1
        for answer in ('done', 'open', 'yes', 'no', 'x', 'x y', '2', '1', '0', '3'):
            self.assertGreater(said.get(answer, 0), 3, (answer, said))

    def test_lines_with_any_change(self):
        rnd = random.Random(3)
        counted = {}
        for _ in range(3000):
            signs = list(rnd.choice(('tell a x b y', 'drop 0', 'limit 2', 'sure a b', 'undo', 'redo', 'known', 'most', 'tests')))
            for _ in range(rnd.randint(0, 2)):
                at = rnd.randrange(len(signs) + 1)
                signs[at:at + rnd.randint(0, 2)] = rnd.choice(['', ' ', '\n', 'a', '0', '-', '1', 'x', 'T', '+'])
            line = ''.join(signs)
            desk, bench = Desk(HEADS + '\ndeeds\ntell b y\ntell a x'), read_journal(HEADS + '\ndeeds\ntell b y\ntell a x')
            desk.say('undo'), bench.undo()
            if form_of(line) is None:
                self.assert_tells(BadLine, line, desk.say, line)
                counted['none'] = counted.get('none', 0) + 1
                continue
            counted[form_of(line)] = counted.get(form_of(line), 0) + 1
            try:
                answer = expected(bench, line)
            except BoxError as error:
                self.assert_tells(type(error), error.value, desk.say, line)
            else:
                self.assertTrue(same(desk.say(line), answer))
        for word in ('none', 'tell', 'drop', 'limit', 'sure', 'undo', 'redo', 'known', 'most', 'tests'):
            self.assertGreater(counted.get(word, 0), 50, counted)

    def test_names_of_arguments(self):
        self.assertEqual(Desk(text=HEADS + '\ndeeds').say(line='most'), '2')


if __name__ == '__main__':
    unittest.main()
