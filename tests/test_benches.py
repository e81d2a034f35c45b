"""Points 2, 3 (g) and 23: Bench."""

import itertools
import random
import unittest

from books import Book, bad_bench, is_known, line_of, look_at_next, right_known
from looks import Plain, Said, heard_by_all, right_cases, same
from raising import Raising
from toldboxes import errors
from toldboxes.benches import Bench
from toldboxes.devices import Device
from toldboxes.errors import (
    BadBench, BadMenu, BadNumber, BadTest, BadWalk, BoxError, Contrary, Full, Long, Many, NoTest, NothingToRedo,
    NothingToUndo, NoTrial, Quarrel,
)
from toldboxes.forms import least
from toldboxes.journals import journal, read_journal
from toldboxes.records import Tests, asked
from toldboxes.suites import suite
from values import (
    FEW, LAMP, ONE_MORE, SIX_HUNDRED, STEADY, any_values, bad_menus, random_text, random_walks, renamed, variants,
)

HEADS = 'calls a b\nanswers x y'
A, B = ('a', 'x'), ('b', 'y')
BAD_ROWS = [
    (), A, [A], (A,) * 13, (A, ()), (A, ('a',)), (('x', 'a'),), (('a', 'z'),), (('c', 'x'),), (('a', 0),), (['a', 'x'],),
    (A, None), ('ax',), ((A,),), (('a', ('x',)),), 0, 'a x', 'tell a x',
]


class Oops(Exception):
    """What looks and blocks raise in these tests."""


def bench_of(most, *rows, calls='a b'):
    """A bench at which these rows were told, each a text of calls and answers."""
    bench = Bench(f'calls {calls}\nanswers x y\nmost {most}')
    for row in rows:
        bench.tell(row_of(row))
    return bench


def row_of(text):
    words = text.split(' ')
    return tuple(zip(words[::2], words[1::2]))


def state_of(bench):
    """All that can be seen of a bench."""
    return journal(bench), bench.tests.text, bench.most, bench.done, len(bench)


def redone(bench):
    """The lines of the deeds that can be done again, one behind the other; the bench is not changed."""
    other = bench.copy()
    while True:
        try:
            other.redo()
        except NothingToRedo:
            return journal(other).split('\n')[4 + bench.done:]


class TestTexts(Raising, unittest.TestCase):
    def test_what_is_no_string(self):
        for value in any_values():
            if not isinstance(value, str):
                self.assert_tells(BadBench, 0, Bench, value)

    def test_lines(self):
        for text, number in (
                ('', 1), ('calls a b', 2), ('calls a b\n', 2), (HEADS, 3), (HEADS + '\n', 3), (HEADS + '\nmost', 3),
                (HEADS + '\nmost 0', 3), (HEADS + '\nmost 5', 3), (HEADS + '\nmost 02', 3), (HEADS + '\nmost +2', 3),
                (HEADS + '\nmost 2 ', 3), (HEADS + '\nmost  2', 3), (HEADS + '\nmost 2 3', 3), (HEADS + '\nmost two', 3),
                (HEADS + '\nmost 2\n', 4), (HEADS + '\nmost 2\ntest a x', 4), (HEADS + '\nmost 2\ndeeds', 4),
                (HEADS + '\nMost 2', 3), (' ' + HEADS + '\nmost 2', 1), (HEADS + ' \nmost 2', 2), ('most 2\n' + HEADS, 1),
                (HEADS + '\nmost -1', 3), (HEADS + '\nmost 12', 3), (HEADS + '\nstates 2', 3),
                ('calls a b c\nanswers x y\nmost 4', 3), ('calls a b c d\nanswers x y\nmost 2', 1),
                ('calls a\nanswers x\nmost 2', 2), ('calls a a\nanswers x y\nmost 2', 1), ('calls a\nanswers w x y z\nmost 1', 2)):
            self.assert_tells(BadBench, number, Bench, text)
        for calls, top in (('a', 4), ('a b', 4), ('a b c', 3)):
            for most in range(1, top + 1):
                self.assertEqual(Bench(f'calls {calls}\nanswers x y z\nmost {most}').most, most)

    def test_texts_with_any_change(self):
        rnd = random.Random(1)
        counted = {}
        for turn in range(1000):
            text = rnd.choice((HEADS + '\nmost 2', 'calls a b c\nanswers x y z\nmost 3', 'calls most\nanswers a most\nmost 4'))
            signs = list(text)
            for _ in range(rnd.randint(0, 2)):
                at = rnd.randrange(len(signs))
                signs[at:at + rnd.randint(0, 2)] = rnd.choice(['', ' ', '\n', 'a', 'x', '1', '4', 'most', 'A'])
            text = ''.join(signs)
            number = bad_bench(text)
            if number is None:
                self.assertEqual(journal(Bench(text)), text + '\ndeeds')
            else:
                self.assert_tells(BadBench, number, Bench, text)
            counted[number is None] = counted.get(number is None, 0) + 1
        self.assertGreater(min(counted.values()), 100)
        for text in variants(HEADS + '\nmost 2', ()):
            if type(text) is str and bad_bench(text) is not None:
                self.assert_tells(BadBench, bad_bench(text), Bench, text)

    def test_at_first(self):
        bench = Bench(HEADS + '\nmost 2')
        self.assertEqual((bench.calls, bench.answers, bench.most, bench.done, len(bench)), (('a', 'b'), ('x', 'y'), 2, 0, 0))
        self.assertEqual(bench.tests, Tests(HEADS))
        self.assertTrue(() in bench)
        for call in (bench.undo, bench.redo, bench.keep):
            self.assertRaises(BoxError, call)

    def test_names_of_arguments(self):
        bench = Bench(text=HEADS + '\nmost 2')
        self.assertIsNone(bench.tell(row=(A,)))
        self.assertIsNone(bench.drop(number=0))
        self.assertIsNone(bench.limit(m=1))
        self.assertEqual(bench.sure(walk=()), ())
        self.assertEqual(bench.next(menu=(('a',),)), (0, 1))
        self.assertEqual(bench.tried(look=len, keep=True), 0)
        self.assertRaises(TypeError, bench.tried, len, True)

    def test_which_are_nodes(self):
        bench = bench_of(2, 'a x a y', 'b y')
        for value in any_values() + [('b', 'a'), ('a', 'a', 'a'), ['a'], 'a', ('a', 'x')]:
            self.assertIs(value in bench, False)
        for value in ((), ('a',), ('a', 'a'), ('b',)):
            self.assertIs(value in bench, True)
        bench.drop(0)
        self.assertEqual([walk in bench for walk in ((), ('a',), ('a', 'a'), ('b',))], [True, False, False, True])

    def test_other_operators(self):
        bench = bench_of(2)
        for call in (lambda: bench < bench, lambda: bench + bench, lambda: bench[0], lambda: bench | 1):
            self.assertRaises(TypeError, call)


class TestDeeds(Raising, unittest.TestCase):
    def refused(self, bench, error, value, call, *given):
        """That a deed is refused, and changes nothing."""
        before, again = state_of(bench), redone(bench)
        self.assert_tells(error, value, call, *given)
        self.assertEqual((state_of(bench), redone(bench)), (before, again))

    def test_bad_tests(self):
        bench = bench_of(2, 'a x')
        bench.undo()
        for value in any_values() + BAD_ROWS:
            self.refused(bench, BadTest, value, bench.tell, value)
        bench.redo()
        self.assertEqual(len(bench), 1)
        bench.tell((A,) * 12)

    def test_full(self):
        bench = bench_of(1, *['a x'] * 59)
        bench.tell((A,))
        self.assertEqual(len(bench), 60)
        for row in ((A,), (('a', 'y'),), (B,) * 12):
            self.refused(bench, Full, 60, bench.tell, row)
        for row in ((), None, (A, ('c', 'x'))):
            self.refused(bench, BadTest, row, bench.tell, row)
        bench.drop(59)
        bench.tell((B,))
        self.assertEqual(bench.tests.rows[-1], (B,))

    def test_quarrels(self):
        bench = bench_of(3, 'b y', 'a x a y', 'a x')
        for row, numbers in ((('a', 'y'),), (1, 3)), ((A, A), (1, 3)), ((('b', 'x'), A), (0, 3)), ((A, ('a', 'x'), B), (1, 3)):
            self.refused(bench, Quarrel, numbers, bench.tell, row)
        bench.drop(1)
        self.refused(bench, Quarrel, (1, 2), bench.tell, (('a', 'y'),))

    def test_many(self):
        rnd = random.Random(2)
        bench = bench_of(1)
        while len(bench.tests.nodes) <= 188:
            bench.tell(tuple((rnd.choice('ab'), 'x') for _ in range(12)))
        while len(bench.tests.nodes) < 200:
            node = rnd.choice([node + (call,) for node in bench.tests.nodes for call in 'ab' if len(node) < 12
                               and node + (call,) not in bench])
            bench.tell(tuple((call, 'x') for call in node))
        self.assertLess(len(bench), 60)
        bench.tell(bench.tests.rows[0])
        node = next(node + (call,) for node in bench.tests.nodes for call in 'ab' if node + (call,) not in bench)
        self.refused(bench, Many, 200, bench.tell, tuple((call, 'x') for call in node))
        # Many is due ahead of Contrary, Quarrel ahead of Many.
        self.refused(bench, Many, 200, bench.tell, tuple((call, 'x') for call in node[:-1]) + ((node[-1], 'y'),))
        self.refused(bench, Quarrel, (0, len(bench)), bench.tell, ((bench.tests.rows[0][0][0], 'y'),) + ((('a', 'x'),) * 11))

    def test_contrary_at_tell_and_at_limit(self):
        bench = bench_of(1, 'a x')
        said = Said(HEADS + '\ntest a x\ntest a x a y')
        with self.assertRaises(Contrary) as caught:
            bench.tell((A, ('a', 'y')))
        self.assertTrue(right_cases(said, 1, caught.exception.value))
        self.assertEqual((len(bench), bench.done), (1, 1))
        bench.limit(2)
        bench.tell((A, ('a', 'y')))
        with self.assertRaises(Contrary) as caught:
            bench.limit(1)
        self.assertTrue(right_cases(said, 1, caught.exception.value))
        self.assertEqual((bench.most, bench.done), (2, 3))
        # What was told is dropped: then it goes.
        bench.drop(1)
        self.assertIsNone(bench.limit(1))
        self.assertEqual((bench.most, len(bench), bench.done), (1, 1, 5))

    def test_contrary_by_more_states(self):
        bench = bench_of(4, 'a x a x a x a x')
        with self.assertRaises(Contrary) as caught:
            bench.limit(2), bench.tell((A,) * 4 + (('a', 'y'),))
        self.assertTrue(right_cases(Said(HEADS + '\ntest a x a x a x a x\ntest a x a x a x a x a y'), 2, caught.exception.value))
        self.assertEqual(bench.most, 2)
        bench.undo()
        with self.assertRaises(Contrary) as caught:
            bench.tell((A,) * 4 + (('a', 'y'),))
        self.assertTrue(right_cases(Said(HEADS + '\ntest a x a x a x a x\ntest a x a x a x a x a y'), 4, caught.exception.value))

    def test_neither_deed_is_long(self):
        for tests, m in ONE_MORE:
            calls = tests.text.split('\n')[0]
            bench = Bench(f'{calls}\nanswers x y\nmost 2')
            bench.limit(m)
            for row in tests.rows:
                bench.tell(row)
            self.assertEqual(bench.tests, tests)
            bench.limit(m)
            self.assert_tells(Long, 600, bench.sure, ())

    def test_numbers_of_tests(self):
        bench = bench_of(2, 'a x', 'b y', 'a x a y')
        for value in any_values() + [3, -1, (), '0', (0,), True, False, [0], 10]:
            self.refused(bench, NoTest, value, bench.drop, value)
        self.assertIsNone(bench.drop(0))
        self.refused(bench, NoTest, 2, bench.drop, 2)
        self.assertIsNone(bench.drop(1))
        self.assertIsNone(bench.drop(0))
        for value in (0, 1, -1, None):
            self.refused(bench, NoTest, value, bench.drop, value)
        self.assertEqual((len(bench), bench.done, bench.tests), (0, 6, Tests(HEADS)))

    def test_dropped_first_and_last(self):
        rows = ['a x', 'b y', 'a x a y', 'b y']
        for number in range(4):
            bench = bench_of(2, *rows)
            bench.drop(number)
            left = rows[:number] + rows[number + 1:]
            self.assertEqual(bench.tests.text, '\n'.join([HEADS] + [f'test {row}' for row in left]))
            self.assertEqual(bench.done, 5)

    def test_tests_told_twice(self):
        bench = bench_of(2, 'a x', 'a x')
        self.assertEqual((len(bench), bench.done), (2, 2))
        bench.drop(0)
        self.assertEqual((len(bench), bench.done, ('a',) in bench), (1, 3, True))

    def test_limits(self):
        for calls, top in (('a', 4), ('a b', 4), ('a b c', 3)):
            bench = bench_of(2, 'a x', calls=calls)
            for value in any_values() + [0, 5, (), '2', (2,), True] + [4] * (top == 3):
                self.refused(bench, BadNumber, value, bench.limit, value)
            for m in (1, top, 1, 1):
                self.assertIsNone(bench.limit(m))
                self.assertEqual(bench.most, m)
            # A call that changes nothing is a deed, too.
            self.assertEqual(bench.done, 5)
            bench.undo()
            self.assertEqual((bench.most, bench.done), (1, 4))


class TestUndo(Raising, unittest.TestCase):
    def test_nothing(self):
        bench = bench_of(2)
        for call, error in ((bench.undo, NothingToUndo), (bench.redo, NothingToRedo)):
            self.assert_tells(error, None, call)
        bench.tell((A,))
        self.assert_tells(NothingToRedo, None, bench.redo)
        self.assertIsNone(bench.undo())
        self.assert_tells(NothingToUndo, None, bench.undo)
        self.assertIsNone(bench.redo())
        self.assert_tells(NothingToRedo, None, bench.redo)

    def test_there_and_back(self):
        bench = bench_of(2)
        seen = [state_of(bench)]
        for deed in (lambda: bench.tell((A,)), lambda: bench.limit(3), lambda: bench.tell((B, A)), lambda: bench.drop(0),
                     lambda: bench.limit(1), lambda: bench.tell((('b', 'y'),)), lambda: bench.limit(1)):
            deed() if deed is not None else None
            seen.append(state_of(bench))
        for state in seen[-2::-1]:
            bench.undo()
            self.assertEqual(state_of(bench), state)
        for state in seen[1:]:
            bench.redo()
            self.assertEqual(state_of(bench), state)

    def test_behind_deeds_that_were_refused(self):
        bench = bench_of(1, 'a x', 'b y')
        bench.undo()
        for error, call in ((BadTest, lambda: bench.tell(())), (Quarrel, lambda: bench.tell((('a', 'y'),))),
                            (Contrary, lambda: bench.tell((('a', 'x'), ('a', 'y')))), (NoTest, lambda: bench.drop(1)),
                            (BadNumber, lambda: bench.limit(0))):
            self.assertRaises(error, call)
            self.assertEqual(redone(bench), ['tell b y'])
        bench.redo()
        self.assertEqual(journal(bench).split('\n')[4:], ['tell a x', 'tell b y'])

    def test_behind_other_deeds(self):
        for deed in (lambda bench: bench.tell((B,)), lambda bench: bench.drop(0), lambda bench: bench.limit(2)):
            bench = bench_of(2, 'a x', 'b y')
            bench.undo()
            deed(bench)
            self.assert_tells(NothingToRedo, None, bench.redo)
            bench.undo()
            self.assertEqual(len(redone(bench)), 1)

    def test_what_only_looks_takes_nothing_away(self):
        bench = bench_of(2, 'a x', 'b y')
        bench.undo()
        bench.sure(('a',)), bench.known(), bench.next((('b',),)), len(bench), bench == bench.copy(), journal(bench)
        self.assertEqual(redone(bench), ['tell b y'])


class TestTrials(Raising, unittest.TestCase):
    def test_left_as_it_was(self):
        bench = bench_of(2, 'a x', 'b y')
        bench.undo()
        before = state_of(bench)
        with bench.trial() as held:
            self.assertIs(held, bench)
            self.assertEqual(state_of(bench), before)
            bench.tell((A, A))
            bench.limit(3)
            bench.drop(0)
            self.assertEqual((len(bench), bench.most, bench.done), (1, 3, 4))
        self.assertEqual((state_of(bench), redone(bench)), (before, ['tell b y']))
        with bench.trial():
            pass
        self.assertEqual((state_of(bench), redone(bench)), (before, ['tell b y']))

    def test_kept(self):
        bench = bench_of(2, 'a x', 'b y')
        bench.undo()
        with bench.trial():
            bench.tell((A, A))
            self.assertIsNone(bench.keep())
            bench.limit(3)
            bench.undo()
        self.assertEqual(journal(bench).split('\n')[4:], ['tell a x', 'tell a x a x'])
        self.assertEqual(redone(bench), ['limit 3'])
        self.assert_tells(NoTrial, None, bench.keep)

    def test_keep_outside(self):
        bench = bench_of(2)
        self.assert_tells(NoTrial, None, bench.keep)
        with bench.trial():
            bench.keep()
            bench.keep()
        self.assert_tells(NoTrial, None, bench.keep)
        self.assertEqual(bench.tried(lambda held: held.keep()), None)
        self.assert_tells(NoTrial, None, bench.keep)
        try:
            with bench.trial():
                raise Oops
        except Oops:
            self.assert_tells(NoTrial, None, bench.keep)

    def test_left_by_an_error(self):
        for keep in (False, True):
            for error in (Oops('a'), BadTest(0), KeyError('x')):
                bench = bench_of(2, 'a x', 'b y')
                bench.undo()
                before = state_of(bench)
                with self.assertRaises(type(error)) as caught:
                    with bench.trial():
                        bench.tell((A, A))
                        if keep:
                            bench.keep()
                        raise error
                self.assertIs(caught.exception, error)
                self.assertEqual((state_of(bench), redone(bench)), (before, ['tell b y']))

    def test_an_error_of_the_bench_within(self):
        bench = bench_of(2, 'a x')
        with bench.trial():
            bench.tell((B,))
            self.assert_tells(Quarrel, (0, 2), bench.tell, (('a', 'y'),))
            bench.keep()
        self.assertEqual(len(bench), 2)
        with self.assertRaises(Quarrel):
            with bench.trial():
                bench.keep()
                bench.drop(1)
                bench.tell((('a', 'y'),))
        self.assertEqual((len(bench), bench.done), (2, 2))

    def test_undo_and_redo_within(self):
        bench = bench_of(2, 'a x', 'b y', 'a x a y')
        bench.undo()
        before, again = state_of(bench), redone(bench)
        with bench.trial():
            # They go on to what was done, and taken back, ahead of the block.
            bench.undo()
            bench.undo()
            self.assertEqual((len(bench), bench.done), (0, 0))
            self.assert_tells(NothingToUndo, None, bench.undo)
            for many in (1, 2, 3):
                bench.redo()
                self.assertEqual(len(bench), many)
            self.assert_tells(NothingToRedo, None, bench.redo)
        self.assertEqual((state_of(bench), redone(bench)), (before, again))
        with bench.trial():
            bench.undo()
            bench.tell((A, A))
            bench.keep()
        self.assertEqual(journal(bench).split('\n')[4:], ['tell a x', 'tell a x a x'])
        self.assertEqual(redone(bench), [])

    def test_blocks_within_blocks(self):
        for outer, inner in itertools.product((False, True), repeat=2):
            bench = bench_of(2)
            with bench.trial():
                bench.tell((A,))
                with bench.trial():
                    bench.tell((B,))
                    if inner:
                        bench.keep()
                self.assertEqual(len(bench), 1 + inner)
                if outer:
                    bench.keep()
                bench.tell((A, A))
            self.assertEqual(len(bench), (2 + inner) * outer)
            self.assertEqual(bench.done, len(bench))

    def test_keep_belongs_to_the_innermost(self):
        bench = bench_of(2)
        with bench.trial():
            bench.tell((A,))
            with bench.trial():
                bench.keep()
            bench.tell((B,))
        self.assertEqual((len(bench), bench.done), (0, 0))
        with bench.trial():
            bench.keep()
            with bench.trial():
                bench.tell((A,))
        self.assertEqual(len(bench), 0)
        # An inner block that an error leaves; it is caught in the outer one.
        with bench.trial():
            bench.tell((A,))
            try:
                with bench.trial():
                    bench.tell((B,))
                    bench.keep()
                    raise Oops
            except Oops:
                self.assertEqual(len(bench), 1)
            bench.keep()
        self.assertEqual(len(bench), 1)

    def test_it_begins_where_it_is_entered(self):
        bench = bench_of(2)
        block = bench.trial()
        bench.tell((A,))
        self.assert_tells(NoTrial, None, bench.keep)
        with block as held:
            self.assertIs(held, bench)
            bench.tell((B,))
        self.assertEqual(len(bench), 1)


class TestTried(Raising, unittest.TestCase):
    def look(self, held):
        held.tell((A,))
        return [held, len(held)]

    def test_what_it_returns(self):
        bench = bench_of(2)
        told = bench.tried(self.look)
        self.assertIs(told[0], bench)
        self.assertEqual((told[1], len(bench), bench.done), (1, 0, 0))
        for value in any_values() + [bench, 0, 1]:
            self.assertIs(bench.tried(lambda held: value), value)
            self.assertIs(bench.tried(lambda held: value, keep=True), value)

    def test_keep(self):
        for value in any_values() + [0, 1, 'True', (True,), [True], False]:
            bench = bench_of(2)
            bench.tried(self.look, keep=value)
            self.assertEqual(len(bench), int(value is True), value)
        bench = bench_of(2)
        bench.tried(self.look, keep=True)
        self.assertEqual((len(bench), bench.done), (1, 1))
        bench = bench_of(2)
        bench.tried(lambda held: (held.tell((A,)), held.keep()), keep=False)
        self.assertEqual(len(bench), 1)
        # Keep is called for a block within: this one is not kept by it.
        bench = bench_of(2)
        bench.tried(lambda held: held.tried(self.look, keep=True))
        self.assertEqual(len(bench), 0)
        bench.tried(lambda held: held.tried(self.look, keep=True), keep=True)
        self.assertEqual(len(bench), 1)

    def test_errors_pass_on(self):
        for keep in (False, True, None):
            bench = bench_of(2)
            error = Oops('b')

            def look(held):
                held.tell((A,))
                held.keep()
                raise error
            with self.assertRaises(Oops) as caught:
                bench.tried(look, keep=keep)
            self.assertIs(caught.exception, error)
            self.assertEqual((len(bench), bench.done), (0, 0))
            self.assert_tells(NoTrial, None, bench.keep)
        self.assert_tells(NoTest, 7, bench.tried, lambda held: held.drop(7), keep=True)

    def test_within_a_block(self):
        bench = bench_of(2)
        with bench.trial():
            bench.tried(self.look, keep=True)
            self.assertEqual(len(bench), 1)
            bench.tried(lambda held: held.undo())
            self.assertEqual(len(bench), 1)
        self.assertEqual(len(bench), 0)


class TestCopies(Raising, unittest.TestCase):
    def test_independent(self):
        bench = bench_of(2, 'a x', 'b y')
        bench.undo()
        other = bench.copy()
        self.assertIs(type(other), Bench)
        self.assertIsNot(other, bench)
        self.assertEqual((state_of(other), redone(other), other.calls, other.answers),
                         (state_of(bench), ['tell b y'], bench.calls, bench.answers))
        other.tell((A, A))
        self.assertEqual((len(bench), len(other), redone(bench)), (1, 2, ['tell b y']))
        bench.redo()
        bench.limit(4)
        self.assertEqual((bench.most, other.most, len(bench), len(other)), (4, 2, 2, 2))
        other.undo()
        self.assertEqual(redone(other), ['tell a x a x'])

    def test_made_within_a_block(self):
        bench = bench_of(2, 'a x')
        with bench.trial():
            bench.tell((B,))
            other = bench.copy()
            self.assert_tells(NoTrial, None, other.keep)
            other.tell((A, A))
            with other.trial():
                other.undo()
                other.undo()
                other.undo()
                self.assertEqual((len(other), len(bench)), (0, 2))
            bench.keep()
        self.assertEqual((len(bench), len(other)), (2, 3))
        with bench.trial():
            bench.drop(0)
            other = bench.copy()
        self.assertEqual((len(bench), len(other), other.done), (2, 1, 3))
        other.undo()
        self.assertEqual(other, bench)

    def test_equal(self):
        one, other = bench_of(2, 'a x', 'b y'), bench_of(2, 'a x', 'b y')
        self.assertTrue(one == other)
        self.assertFalse(one != other)
        other.undo()
        self.assertFalse(one == other)
        other.redo()
        self.assertTrue(one == other)
        # What can be done again does not stand in the journal.
        other.limit(2)
        self.assertTrue(one != other)
        other.undo()
        self.assertTrue(one == other)
        # The same tests by other deeds are not the same.
        other.drop(1)
        other.tell((B,))
        self.assertEqual(one.tests, other.tests)
        self.assertFalse(one == other)
        three = bench_of(3, 'a x', 'b y')
        two = bench_of(2, 'a x', 'b y')
        self.assertFalse(three == two)
        three.limit(2)
        self.assertFalse(three == two)
        for value in any_values() + [journal(one), one.tests]:
            self.assertFalse(one == value)
            self.assertTrue(one != value)


class TestSure(Raising, unittest.TestCase):
    def some(self, seed, many):
        """Benches at which was told how some device answers."""
        rnd = random.Random(seed)
        for turn in range(many):
            calls = rnd.sample(['a', 'b', 'c'], rnd.choice((1, 2, 2, 3)))
            answers = rnd.sample(['x', 'y', 'z'], 2 if turn % 3 else 3)
            device = Device(random_text(rnd, calls, answers, rnd.randint(1, 2)))
            most = rnd.randint(len(least(device)), 3 if len(calls) < 3 else 2)
            bench = Bench(f'calls {" ".join(calls)}\nanswers {" ".join(answers)}\nmost {most}')
            length = {1: 5, 2: 3, 3: 2}[len(calls)]
            walks = tuple(itertools.product(calls, repeat=rnd.randint(1, length)))
            for walk in walks if turn % 3 else random_walks(rnd, calls, rnd.randint(0, 4), 4):
                bench.tell(tuple(zip(walk, device.heard(walk))))
            yield rnd, bench

    def test_bad_walks(self):
        for bench in (bench_of(2), bench_of(2, 'a x a y')):
            for value in any_values() + [0, 'a', ['a'], ('c',), ('a', 0), ('a', None), ('a',) * 25, ('a', ('a',))]:
                self.assert_tells(BadWalk, value, bench.sure, value)

    def test_sure_by_a_look(self):
        counted = {'sure': 0, 'open': 0, 'long': 0}
        for rnd, bench in self.some(3, 120):
            for walk in ((), *random_walks(rnd, bench.calls, 3, 6)):
                heard = heard_by_all(Said(bench.tests.text), bench.most, walk)
                try:
                    told = bench.sure(walk)
                except Long as long:
                    self.assertEqual((long.value, len(heard)), (600, 1))
                    counted['long'] += 1
                    continue
                self.assertTrue(same(told, list(heard)[0] if len(heard) == 1 else None))
                counted['sure' if told is not None else 'open'] += 1
        self.assertGreater(min(counted['sure'], counted['open']), 60, counted)

    def test_known_by_a_look(self):
        counted = {'device': 0, 'open': 0}
        for _, bench in self.some(4, 150):
            said = Said(bench.tests.text)
            try:
                told = bench.known()
            except Long as long:
                self.assertEqual((long.value, is_known(said, bench.most)), (600, True))
                continue
            self.assertEqual(told[0] == 'device', is_known(said, bench.most))
            self.assertTrue(right_known(said, bench.most, told), told)
            counted[told[0]] += 1
        self.assertGreater(min(counted.values()), 30, counted)

    def test_next_by_a_look(self):
        counted = {'least': 0, 'long': 0}
        for rnd, bench in self.some(5, 80):
            further = [node + (call,) for node in bench.tests.nodes for call in bench.calls if node + (call,) not in bench]
            menu = tuple(rnd.sample(further, min(len(further), rnd.randint(1, 3))))
            expected = look_at_next(bench.tests.text, bench.most, menu)
            if expected is None:
                self.assert_tells(Long, 600, bench.next, menu)
                counted['long'] += 1
            else:
                self.assertTrue(same(bench.next(menu), expected))
                counted['least'] += expected[0] > 0
        self.assertGreater(counted['least'], 5, counted)

    def test_known_by_the_state_of_the_bench(self):
        bench = bench_of(2)
        self.assertEqual(bench.known()[0], 'open')
        for row in suite(LAMP, 0).rows:
            self.assertEqual(bench.known()[0], 'open')
            bench.tell(row)
        self.assertEqual(bench.known()[:2], ('device', least(LAMP).text))
        bench.limit(3)
        self.assertEqual(bench.known()[0], 'open')
        bench.undo()
        bench.drop(0)
        self.assertEqual(bench.known()[0], 'open')
        # One state, and both calls told.
        bench = bench_of(1, 'a x b y')
        self.assertEqual(bench.known()[:2], ('device', HEADS + '\nstates s0\nrow s0 a x s0\nrow s0 b y s0'))

    def test_long(self):
        for tests, m in SIX_HUNDRED + ONE_MORE:
            calls = tests.text.split('\n')[0]
            bench = Bench(f'{calls}\nanswers x y\nmost {m}')
            for row in tests.rows:
                bench.tell(row)
            if (tests, m) in SIX_HUNDRED:
                self.assertEqual(bench.sure(()), ())
            else:
                self.assert_tells(Long, 600, bench.sure, ())
            self.assertEqual(bench.known()[0], 'open')
        bench = bench_of(4)
        for row in asked(STEADY, tuple(itertools.product('ab', repeat=4))).rows:
            bench.tell(row)
        self.assert_tells(Long, 600, bench.known)
        self.assert_tells(Long, 600, bench.sure, ('a',))
        self.assert_tells(Long, 600, bench.next, (('a',) * 5,))
        bench.limit(3)
        self.assertEqual((bench.known()[0], bench.sure(('a',))), ('device', ('x',)))

    def test_bad_menus(self):
        bench = bench_of(2, 'a x a y', 'b y a x')
        self.assertEqual(bench.tests, FEW)
        for value in bad_menus() + [(('a',),), (('b', 'b'), ('a', 'a')), ((),), (('a', 'b', 'a'),)]:
            self.assert_tells(BadMenu, value, bench.next, value)
        self.assertEqual(bench.next((('a', 'b'), ('b', 'b'))), (1, 2))
        full = bench_of(1, *['a x'] * 60)
        self.assert_tells(BadMenu, (('a',),), full.next, (('a',),))
        self.assert_tells(Full, 60, full.next, (('b',),))

    def test_equal_calls(self):
        one, other = bench_of(2, 'a x a y', 'b y a x'), bench_of(2, 'a x a y', 'b y a x')
        for call in (lambda bench: bench.known(), lambda bench: bench.sure(('b', 'a', 'a')),
                     lambda bench: bench.next((('a', 'b'),)), lambda bench: journal(bench)):
            self.assertTrue(same(call(one), call(other)))
            self.assertTrue(same(call(one), call(one)))


class TestBook(unittest.TestCase):
    """Benches behind any deeds are as the book says."""

    def test_any_deeds(self):
        self.counted = {}
        rnd = random.Random(6)
        for turn in range(60):
            calls = rnd.sample(['a', 'b', 'c'], rnd.choice((1, 2, 2, 3)))
            answers = rnd.sample(['x', 'y', 'z'], 2 if turn % 3 else 3)
            most = rnd.randint(1, 3)
            text = f'calls {" ".join(calls)}\nanswers {" ".join(answers)}\nmost {most}'
            device = Device(random_text(rnd, calls, answers, rnd.randint(1, most)))
            self.go(rnd, Bench(text), Book(text), device, 0, 25)
        for name in ('tell', 'drop', 'limit', 'undo', 'redo', 'NothingToUndo', 'NothingToRedo', 'BadTest', 'Quarrel',
                     'Contrary', 'NoTest', 'BadNumber', 'kept', 'left', 'error', 'copy'):
            self.assertGreater(self.counted.get(name, 0), 5, (name, self.counted))

    def count(self, name):
        self.counted[name] = self.counted.get(name, 0) + 1

    def go(self, rnd, bench, book, device, deep, steps):
        for _ in range(steps):
            draw = rnd.random()
            if draw < 0.4:
                self.tell(rnd, bench, book, device)
            elif draw < 0.5:
                number = rnd.choice((0, 0, 1, len(bench) - 1, len(bench), -1, True))
                self.do(bench, book, bench.drop, number, book.dropped(number), f'drop {number}', 'drop')
            elif draw < 0.6:
                m = rnd.choice((1, 2, 3, 3, 4, 0, '2'))
                self.do(bench, book, bench.limit, m, book.limited(m), f'limit {m}', 'limit')
            elif draw < 0.85:
                self.turn(rnd.choice((True, True, False)), bench, book)
            elif draw < 0.9:
                self.leave(rnd, bench, book, device)
            elif deep < 3:
                self.block(rnd, bench, book, device, deep)
            self.look(bench, book)

    def tell(self, rnd, bench, book, device):
        walk = random_walks(rnd, device.calls, 1, 4)[0]
        row = tuple(zip(walk, device.heard(walk)))
        if rnd.random() < 0.3:
            at = rnd.randrange(len(row))
            row = row[:at] + ((row[at][0], rnd.choice(device.answers)),) + row[at + 1:]
        if rnd.random() < 0.1:
            row = rnd.choice(BAD_ROWS)
        refusal = book.told(row)
        line = line_of('tell', row) if refusal is None else None
        self.do(bench, book, bench.tell, row, refusal, line, 'tell')

    def do(self, bench, book, call, value, refusal, line, name):
        if refusal is None:
            self.assertIsNone(call(value))
            book.did(line)
            self.count(name)
            return
        error, told = refusal
        with self.assertRaises(getattr(errors, error)) as caught:
            call(value)
        if error == 'Contrary':
            self.assertTrue(right_cases(told, value if call == bench.limit else book.most(), caught.exception.value))
        else:
            self.assertTrue(same(caught.exception.value, told))
        self.count(error)

    def turn(self, back, bench, book):
        """Undo or redo."""
        if back and book.deeds:
            bench.undo()
            book.undo()
            self.count('undo')
        elif back:
            self.assertRaises(NothingToUndo, bench.undo)
            self.count('NothingToUndo')
        elif book.undone:
            bench.redo()
            book.redo()
            self.count('redo')
        else:
            self.assertRaises(NothingToRedo, bench.redo)
            self.count('NothingToRedo')

    def leave(self, rnd, bench, book, device):
        """A copy goes its own way."""
        other, own = bench.copy(), book.copy()
        self.assertRaises(NoTrial, other.keep)
        for _ in range(3):
            self.tell(rnd, other, own, device)
            self.turn(rnd.choice((True, False)), other, own)
            self.look(other, own)
        self.count('copy')

    def block(self, rnd, bench, book, device, deep):
        before = book.kept()
        keep, error = rnd.random() < 0.5, rnd.random() < 0.3
        try:
            if rnd.random() < 0.5:
                with bench.trial() as held:
                    self.assertIs(held, bench)
                    self.go(rnd, bench, book, device, deep + 1, 6)
                    if keep:
                        bench.keep()
                        self.go(rnd, bench, book, device, deep + 1, 2)
                    if error:
                        raise Oops
            else:
                def look(held):
                    self.go(rnd, held, book, device, deep + 1, 6)
                    if error:
                        raise Oops
                    return 'seen'
                self.assertEqual(bench.tried(look, keep=keep), 'seen')
        except Oops:
            self.assertTrue(error)
        if error or not keep:
            book.back(before)
        self.count('error' if error else 'kept' if keep else 'left')

    def look(self, bench, book):
        tests, most = book.stand()
        self.assertEqual(bench.tests.text, book.text())
        self.assertTrue(same((bench.most, bench.done, len(bench)), (most, len(book.deeds), len(tests))))
        self.assertEqual(journal(bench), book.journal())
        again = read_journal(book.journal())
        self.assertTrue(again == bench)
        self.assertEqual((again.tests, again.most, again.done), (bench.tests, bench.most, bench.done))
        self.assertEqual(redone(bench), book.undone[::-1])
        self.assertEqual((bench.calls, bench.answers), (book.calls, book.answers))


class TestGuarantees(unittest.TestCase):
    def test_what_was_told_may_be_told_again(self):
        bench = bench_of(3)
        for row in suite(LAMP, 1).rows:
            bench.tell(row)
        told = bench.known()
        self.assertEqual(told[0], 'device')
        device = Device(told[1])
        other = bench_of(3)
        for walk in bench.tests.walks:
            other.tell(tuple(zip(walk, device.heard(walk))))
        self.assertEqual(other, bench)
        self.assertEqual(Plain(told[1]).heard(('a', 'b', 'a')), ('x', 'y', 'y'))

    NAMES = {'calls': {'a': 'z', 'b': 'open', 'c': 'tell'}, 'answers': {'x': 'most', 'y': 'a', 'z': 'x'}}

    def test_other_names_and_calls_in_another_sequence(self):
        calls, answers = self.NAMES['calls'], self.NAMES['answers']
        names = dict(self.NAMES, states={f's{number}': f's{number}' for number in range(4)})
        counted = {}
        for rnd, bench in TestSure().some(9, 80):
            other = Bench(renamed(journal(bench).split('\ndeeds')[0].rsplit('\n', 1)[0], names) + f'\nmost {bench.most}')
            turned = Bench('\n'.join(['calls ' + ' '.join(bench.calls[::-1]), *journal(bench).split('\n')[1:3]]))
            for row in bench.tests.rows:
                other.tell(tuple((calls[call], answers[answer]) for call, answer in row))
                turned.tell(row)
            for walk in random_walks(rnd, bench.calls, 3, 4):
                told = self.told(bench.sure, walk)
                expected = tuple(answers[answer] for answer in told) if type(told) is tuple else told
                self.assertTrue(same(self.told(other.sure, tuple(calls[call] for call in walk)), expected))
                self.assertTrue(same(self.told(turned.sure, walk), told))
            told = self.told(bench.known)
            counted[told[0]] = counted.get(told[0], 0) + 1
            self.assertEqual((self.told(other.known)[0], self.told(turned.known)[0]), (told[0], told[0]))
            if told[0] == 'device':
                self.assertEqual(other.known()[1], renamed(told[1], names))
        self.assertGreater(min(counted.get(word, 0) for word in ('device', 'open')), 10, counted)

    def told(self, call, *given):
        """What is told, or that it is too long."""
        try:
            return call(*given)
        except Long as long:
            return 'long', long.value

    def test_fewer_and_more(self):
        """What is sure is so by fewer states, too, and by further tests."""
        rnd = random.Random(7)
        counted = 0
        for _, bench in TestSure().some(8, 60):
            for walk in random_walks(rnd, bench.calls, 3, 4):
                try:
                    told = bench.sure(walk)
                except Long:
                    continue
                if told is None:
                    continue
                for m in range(1, bench.most):
                    try:
                        self.assertEqual(bench.tried(lambda held: (held.limit(m), held.sure(walk))[1]), told)
                        counted += 1
                    except Contrary:
                        pass
                self.assertIsNone(bench.tried(lambda held: held.tell(tuple(zip(walk, told)))))
        self.assertGreater(counted, 20)


if __name__ == '__main__':
    unittest.main()
