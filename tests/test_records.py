"""Points 2, 3 and 6: tests."""

import itertools
import operator
import random
import unittest

from looks import Plain, Said, bad_tests
from raising import Raising
from toldboxes.devices import Device
from toldboxes.errors import (
    BadTest, BadTests, BadWalks, BoxError, Full, Many, NoNode, NoTest, OtherCalls, Quarrel,
)
from toldboxes.records import Tests, apart, asked, wrong
from values import ENOUGH, FEW, LAMP, STEADY, THREE, any_values, random_text, random_walks

HEADS = 'calls a b\nanswers x y'


def lines_of(*rows):
    """Tests with these rows, each one a string of words."""
    return '\n'.join([HEADS] + [f'test {row}' for row in rows])


def text_with_nodes(many):
    """A text of 32 tests with just so many nodes, 63 to 287: all walks of five calls, some of them gone on."""
    rows = []
    more = many - 63
    for walk in itertools.product('ab', repeat=5):
        rows.append(' '.join(f'{call} x' for call in walk + ('b',) * min(more, 7)))
        more -= min(more, 7)
    return lines_of(*rows)


class TestText(Raising, unittest.TestCase):
    def test_attributes(self):
        tests = Tests(text=lines_of('b y a x', 'a x a y', 'b y'))
        self.assertEqual(tests.text, lines_of('b y a x', 'a x a y', 'b y'))
        self.assertEqual((tests.calls, tests.answers), (('a', 'b'), ('x', 'y')))
        self.assertEqual(tests.rows, ((('b', 'y'), ('a', 'x')), (('a', 'x'), ('a', 'y')), (('b', 'y'),)))
        self.assertEqual(tests.walks, (('b', 'a'), ('a', 'a'), ('b',)))
        self.assertEqual(tests.nodes, ((), ('a',), ('b',), ('a', 'a'), ('b', 'a')))
        for names in (tests.calls, tests.answers, tests.rows, tests.walks, tests.nodes, tests.rows[0], tests.rows[0][0]):
            self.assertIs(type(names), tuple)

    def test_no_tests(self):
        tests = Tests(HEADS)
        self.assertEqual((tests.rows, tests.walks, tests.nodes, len(tests)), ((), (), ((),), 0))
        self.assertEqual(tests.told(()), ())
        self.assertIn((), tests)

    def test_what_is_no_string(self):
        for value in any_values() + [0, 1, ()]:
            if not isinstance(value, str):
                self.assert_tells(BadTests, 0, Tests, value)

    def test_heads(self):
        for text, number in (('', 1), ('calls a b', 2), ('calls\nanswers x y', 1), ('calls a b c d\nanswers x y', 1),
                             ('calls a a\nanswers x y', 1), ('calls a\nanswers x', 2), ('calls a\nanswers x x', 2),
                             ('calls a\nanswers w x y z', 2), ('answers x y\ncalls a', 1), ('calls nine99999\nx', 1),
                             ('calls a\nanswers x nine99999', 2), ('calls a\n', 2), (HEADS + '\n', 3), ('\n' + HEADS, 1),
                             (' ' + HEADS, 1), (HEADS + ' ', 2), ('calls  a\nanswers x y', 1), (HEADS + '\nstates p', 3)):
            self.assert_tells(BadTests, number, Tests, text)
        for calls, answers in (('a', 'x y'), ('a b', 'x y z'), ('a b c', 'x y'), ('eight888', 'a eight888')):
            self.assertEqual(len(Tests(f'calls {calls}\nanswers {answers}')), 0)

    def test_rows_that_cannot_stand(self):
        for bad in ('test', 'test ', 'test a', 'test a x b', 'test a x ', 'test  a x', ' test a x', 'tests a x', 'a x',
                    'test x a', 'test a z', 'test z x', 'test a x\t', 'Test a x', 'told a x', 'row a x', 'test a x x y', ''):
            self.assert_tells(BadTests, 3, Tests, HEADS + '\n' + bad)
            self.assert_tells(BadTests, 4, Tests, lines_of('a x') + '\n' + bad)
            self.assert_tells(BadTests, 4, Tests, lines_of('a x') + '\n' + bad + '\ntest')

    def test_one_to_twelve_pairs(self):
        self.assertEqual(len(Tests(lines_of('a x')).rows[0]), 1)
        self.assertEqual(len(Tests(lines_of(' '.join(['a x'] * 12))).rows[0]), 12)
        self.assert_tells(BadTests, 3, Tests, lines_of(' '.join(['a x'] * 13)))

    def test_sixty_tests(self):
        self.assertEqual(len(Tests(lines_of(*['a x'] * 60))), 60)
        self.assert_tells(BadTests, 63, Tests, lines_of(*['a x'] * 61))
        self.assert_tells(BadTests, 63, Tests, lines_of(*['a x'] * 60) + '\n')
        self.assert_tells(BadTests, 62, Tests, lines_of(*['a x'] * 59, 'a z', 'a x', 'a x'))
        self.assert_tells(BadTests, 63, Tests, lines_of(*['a x'] * 60, 'a y', 'a x'))

    def test_names_that_are_words_of_lines(self):
        tests = Tests('calls test calls\nanswers test answers\ntest test test calls answers\ntest calls test')
        self.assertEqual(tests.rows, ((('test', 'test'), ('calls', 'answers')), (('calls', 'test'),)))

    def test_texts_with_any_change(self):
        rnd = random.Random(4)
        for turn in range(2000):
            signs = list(asked(LAMP, random_walks(rnd, 'ab', rnd.randint(0, 4), 4)).text)
            for _ in range(rnd.randint(0, 2)):
                at = rnd.randrange(len(signs))
                signs[at:at + rnd.randint(0, 2)] = rnd.choice(['', ' ', '\n', 'a', 'x', 'y', '1', 'test', 'A'])
            text = ''.join(signs)
            number = bad_tests(text)
            if number is not None:
                self.assert_tells(BadTests, number, Tests, text)
            else:
                try:
                    self.assertEqual(Tests(text).text, text)
                except Quarrel:
                    pass


class TestQuarrels(Raising, unittest.TestCase):
    def test_which_quarrel(self):
        for one, other in (('a x', 'a y'), ('a x a y', 'a y'), ('a x a y b x', 'a x a x'), ('b y b y', 'b y b x a x')):
            self.assert_tells(Quarrel, (0, 1), Tests, lines_of(one, other))
            self.assert_tells(Quarrel, (0, 1), Tests, lines_of(other, one))
        for one, other in (('a x', 'b y'), ('a x', 'a x'), ('a x', 'a x a y'), ('a x a y', 'a x b x'),
                           ('a x b x a x', 'a x a y a y')):
            self.assertEqual(len(Tests(lines_of(one, other))), 2)

    def test_the_least_numbers(self):
        self.assert_tells(Quarrel, (1, 2), Tests, lines_of('b x', 'a x', 'a y', 'a y', 'b y'))
        self.assert_tells(Quarrel, (0, 3), Tests, lines_of('a x a x', 'a x', 'a x a x', 'a y', 'a x'))
        self.assert_tells(Quarrel, (2, 3), Tests, lines_of('a x', 'b y', 'a x a x', 'a x a y', 'b x'))

    def test_by_a_look(self):
        rnd = random.Random(5)
        told = 0
        for _ in range(500):
            rows = []
            for _ in range(rnd.randint(2, 6)):
                rows.append([(rnd.choice('ab'), rnd.choice('xxxxy')) for _ in range(rnd.randint(1, 4))])
            text = lines_of(*[' '.join(f'{call} {answer}' for call, answer in row) for row in rows])
            pairs = [(other, one) for other in range(len(rows)) for one in range(other)
                     if self.quarrel(rows[one], rows[other])]
            if pairs:
                self.assert_tells(Quarrel, min(pairs)[::-1], Tests, text)
                told += 1
            else:
                self.assertEqual(Tests(text).text, text)
        self.assertGreater(told, 100)

    def quarrel(self, one, other):
        for many in range(1, min(len(one), len(other)) + 1):
            calls = [call for call, _ in one[:many]] == [call for call, _ in other[:many]]
            if calls and one[:many - 1] == other[:many - 1] and one[many - 1] != other[many - 1]:
                return True
        return False

    def test_bad_lines_are_told_ahead(self):
        self.assert_tells(BadTests, 5, Tests, lines_of('a x', 'a y', 'a z'))


class TestNodes(Raising, unittest.TestCase):
    def test_two_hundred_nodes(self):
        for many in (63, 199, 200):
            self.assertEqual(len(Tests(text_with_nodes(many)).nodes), many)
        for many in (201, 202, 287):
            self.assertEqual(len(Said(text_with_nodes(many)).nodes), many)
            self.assert_tells(Many, 200, Tests, text_with_nodes(many))

    def test_quarrels_are_told_ahead_of_many(self):
        self.assert_tells(Quarrel, (0, 32), Tests, text_with_nodes(201) + '\ntest a y')

    def test_told_by_a_look(self):
        rnd = random.Random(6)
        for _ in range(60):
            calls = rnd.sample(['a', 'b', 'c'], rnd.randint(1, 3))
            device = Device(random_text(rnd, calls, ['x', 'y', 'z'], rnd.randint(1, 4)))
            tests = asked(device, random_walks(rnd, calls, rnd.randint(0, 8), 6))
            plain = Plain(device.text)
            self.assertEqual(list(tests.nodes), Said(tests.text).nodes)
            for node in tests.nodes:
                self.assertIs(node in tests, True)
                self.assertEqual(tests.told(node=node), plain.heard(node))

    def test_nodes_stand_in_sequence_by_the_numbers_of_the_calls(self):
        tests = Tests('calls b a\nanswers x y\ntest a x b x\ntest a x a x\ntest b y a x')
        self.assertEqual(tests.nodes, ((), ('b',), ('a',), ('b', 'a'), ('a', 'b'), ('a', 'a')))

    def test_what_is_no_node(self):
        for value in any_values() + [0, 1, 'a', ('x',), ('a', 'b'), ('a', 'a', 'a'), ['a', 'a'], ('a', ['a'])]:
            self.assert_tells(NoNode, value, FEW.told, value)
            self.assertIs(value in FEW, False)


class TestMore(Raising, unittest.TestCase):
    def test_more(self):
        more = FEW.more(row=(('a', 'x'), ('b', 'x')))
        self.assertIs(type(more), Tests)
        self.assertEqual(more.text, FEW.text + '\ntest a x b x')
        self.assertEqual(len(FEW), 2)
        self.assertEqual(FEW.more(FEW.rows[0]).rows, FEW.rows + FEW.rows[:1])
        self.assertEqual(Tests(HEADS).more((('b', 'y'),)).text, HEADS + '\ntest b y')

    def test_what_is_no_test(self):
        pair = ('a', 'x')
        for value in any_values() + [0, 1, (), pair, [pair], (pair, ['b', 'y']), (pair,) * 13, (('x', 'a'),), ('ax',),
                                     (('a', 'x', 'a', 'x'),), (('a',),), ((),), (('a', 'z'),), (('z', 'x'),), (pair, None)]:
            self.assert_tells(BadTest, value, FEW.more, value)
        self.assertEqual(len(Tests(HEADS).more((pair,) * 12).rows[0]), 12)

    def test_full_quarrel_many_in_sequence(self):
        full = Tests(lines_of(*['a x'] * 60))
        self.assert_tells(BadTest, (), full.more, ())
        self.assert_tells(Full, 60, full.more, (('a', 'x'),))
        self.assert_tells(Full, 60, full.more, (('a', 'y'),))
        self.assertEqual(len(Tests(lines_of(*['a x'] * 59)).more((('a', 'x'),))), 60)
        self.assert_tells(Quarrel, (0, 2), FEW.more, (('a', 'y'),))
        self.assert_tells(Quarrel, (1, 2), FEW.more, (('b', 'y'), ('a', 'y'), ('a', 'x')))
        self.assert_tells(Quarrel, (0, 59), Tests(lines_of(*['a x'] * 59)).more, (('a', 'y'),))

    def test_many(self):
        tests = Tests(text_with_nodes(200))
        self.assert_tells(Many, 200, tests.more, (('b', 'x'),) * 6)
        self.assert_tells(Quarrel, (0, 32), tests.more, (('a', 'y'),) * 12)
        self.assertEqual(len(tests.more(tests.rows[0]).nodes), 200)
        self.assertEqual(len(Tests(text_with_nodes(199)).more((('b', 'x'),) * 6).nodes), 200)
        self.assert_tells(Many, 200, Tests(text_with_nodes(199)).more, (('b', 'x'),) * 7)

    def test_without(self):
        self.assertEqual(FEW.without(number=0).text, HEADS + '\ntest b y a x')
        self.assertEqual(FEW.without(1).text, HEADS + '\ntest a x a y')
        self.assertEqual(FEW.without(1).without(0).text, HEADS)
        twice = Tests(lines_of('a x', 'b x', 'a x'))
        self.assertEqual(twice.without(2).rows, twice.rows[:2])
        self.assertEqual(twice.without(0).rows, twice.rows[1:])
        for value in any_values() + [2, (), '1', (0,)]:
            self.assert_tells(NoTest, value, FEW.without, value)
        self.assert_tells(NoTest, 0, Tests(HEADS).without, 0)
        self.assert_tells(NoTest, True, FEW.without, True)

    def test_operators(self):
        self.assertEqual([len(FEW), len(ENOUGH)], [2, 3])
        self.assertTrue(Tests(FEW.text) == FEW)
        self.assertFalse(Tests(FEW.text) != FEW)
        other_sequence = Tests(lines_of('b y a x', 'a x a y'))
        for value in any_values() + [0, 1, FEW.text, FEW.rows, other_sequence]:
            if value is not FEW:
                self.assertIs(FEW == value, False)
                self.assertIs(value == FEW, False)
                self.assertIs(FEW != value, True)
        for operate in (operator.lt, operator.ge, operator.add, operator.sub, operator.mul, operator.or_, operator.xor):
            for value in (FEW, LAMP, None, 1, {}, []):
                self.assertRaises(TypeError, operate, FEW, value)
        self.assertRaises(TypeError, operator.getitem, FEW, 0)


class TestAsked(Raising, unittest.TestCase):
    def test_by_a_look(self):
        rnd = random.Random(7)
        for _ in range(100):
            calls = rnd.sample(['a', 'b', 'c'], rnd.randint(1, 3))
            device = Device(random_text(rnd, calls, ['x', 'y'], rnd.randint(1, 4)))
            walks = random_walks(rnd, calls, rnd.randint(0, 5), 12)
            tests = asked(device=device, walks=walks)
            self.assertEqual(tests.walks, walks)
            self.assertEqual((tests.calls, tests.answers), (device.calls, device.answers))
            plain = Plain(device.text)
            self.assertEqual(tests.rows, tuple(tuple(zip(walk, plain.heard(walk))) for walk in walks))
            self.assertEqual(wrong(device, tests), ())

    def test_how_many(self):
        self.assertEqual(asked(LAMP, ()).text, HEADS)
        self.assertEqual(len(asked(LAMP, (('a',),) * 60)), 60)
        self.assert_tells(BadWalks, (('a',),) * 61, asked, LAMP, (('a',),) * 61)
        self.assertEqual(len(asked(LAMP, (('a',) * 12,)).nodes), 13)
        self.assert_tells(BadWalks, (('a',) * 13,), asked, LAMP, (('a',) * 13,))
        self.assert_tells(BadWalks, (('a',), ()), asked, LAMP, (('a',), ()))

    def test_what_is_no_walks(self):
        for value in any_values() + [0, 1, 'a', ('a',), [('a',)], (['a'],), (('a',), ('x',)), (('a',), 'a'), (('a', 0),)]:
            self.assert_tells(BadWalks, value, asked, LAMP, value)

    def test_two_hundred_nodes(self):
        walks = Tests(text_with_nodes(200)).walks
        self.assertEqual(len(asked(STEADY, walks + walks[:1]).nodes), 200)
        self.assert_tells(Many, 200, asked, STEADY, walks + (('b',) * 6,))
        self.assert_tells(BadWalks, walks + (('b',) * 13,), asked, STEADY, walks + (('b',) * 13,))


class TestWrong(Raising, unittest.TestCase):
    def test_by_a_look(self):
        rnd = random.Random(8)
        for _ in range(200):
            one, other = [Device(random_text(rnd, ['a', 'b'], ['x', 'y'], rnd.randint(1, 4))) for _ in range(2)]
            tests = asked(one, random_walks(rnd, ['a', 'b'], 5, 5))
            plain = Plain(other.text)
            expected = tuple(at for at, (walk, answers) in enumerate(Said(tests.text).rows) if plain.heard(walk) != answers)
            self.assertEqual(wrong(device=other, tests=tests), expected)

    def test_other_calls(self):
        for heads in ('calls b a\nanswers x y', 'calls a b\nanswers y x', 'calls a\nanswers x y', 'calls a b c\nanswers x y',
                      'calls a b\nanswers x y z', 'calls a z\nanswers x y'):
            tests = Tests(heads)
            self.assert_tells(OtherCalls, tests, wrong, LAMP, tests)
        self.assertEqual(wrong(LAMP, Tests(HEADS)), ())


class TestApart(Raising, unittest.TestCase):
    def test_by_a_look(self):
        rnd = random.Random(9)
        words = set()
        for _ in range(60):
            calls = rnd.sample(['a', 'b', 'c'], rnd.randint(1, 3))
            device = Device(random_text(rnd, calls, ['x', 'y'], rnd.randint(1, 3)))
            tests = asked(device, random_walks(rnd, calls, 6, 6))
            said = Said(tests.text)
            for one, other in itertools.product(tests.nodes, repeat=2):
                walks = [node[len(one):] for node in said.nodes if node[:len(one)] == one and node != one]
                found = [walk for walk in walks if other + walk in said.told
                         and said.told[one + walk] != said.told[other + walk]]
                expected = found[0] if found else None
                words.add(expected is None)
                self.assertEqual(apart(tests=tests, one=one, other=other), expected)
        self.assertEqual(words, {True, False})

    def test_in_the_sequence_of_calls(self):
        tests = Tests('calls b a\nanswers x y\ntest b x b y\ntest b x a y\ntest a x')
        self.assertEqual(apart(tests, (), ('b',)), ('b',))
        self.assertEqual(apart(Tests(tests.text.replace('test b x b y', 'test b x b x')), (), ('b',)), ('a',))

    def test_the_last_call_alone_is_compared(self):
        tests = Tests(lines_of('a x a x a y b x', 'b y b y'))
        self.assertEqual(apart(tests, (), ('a',)), ('a', 'a'))
        self.assertEqual(apart(tests, ('a',), ('a', 'a')), ('a',))
        self.assertIsNone(apart(tests, ('a', 'a'), ('a', 'a')))
        self.assertIsNone(apart(tests, (), ('b',)))

    def test_wrong_nodes(self):
        for value in any_values() + [0, 1, 'a', ('a', 'b')]:
            self.assert_tells(NoNode, value, apart, FEW, value, None)
            self.assert_tells(NoNode, value, apart, FEW, (), value)
            self.assert_tells(NoNode, value, apart, FEW, value, ())


class TestChanges(unittest.TestCase):
    def test_nothing_is_changed(self):
        tests = Tests(FEW.text)
        for _ in range(2):
            for call in (lambda: tests.more((('a', 'x'),)), lambda: tests.without(0), lambda: tests.told(('a',)),
                         lambda: wrong(LAMP, tests), lambda: apart(tests, (), ('a',)), lambda: tests.more(0)):
                try:
                    call()
                except BoxError:
                    pass
                self.assertEqual(tests, FEW)
                self.assertEqual((tests.rows, tests.walks, tests.nodes), (FEW.rows, FEW.walks, FEW.nodes))
        self.assertEqual(THREE, Device(THREE.text))


if __name__ == '__main__':
    unittest.main()
