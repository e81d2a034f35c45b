"""Points 2, 3 (g) and 24: journal, read_journal."""

import random
import re
import unittest

from books import Book, bad_bench
from looks import same
from raising import Raising
from toldboxes.benches import Bench
from toldboxes.errors import BadJournal, NothingToRedo, NoTrial
from toldboxes.journals import journal, read_journal
from toldboxes.records import Tests
from values import any_values, variants

HEADS = 'calls a b\nanswers x y\nmost 2'
LONG = HEADS + '\ndeeds\ntell a x\ntell b y a x\nlimit 3\ndrop 0\ntell a x a y\nlimit 2\ntell b y\ndrop 2\ndrop 0'
WORDS = ['', ' ', '\n', 'a', 'x', 'y', '0', '1', '9', '-', 'tell', 'drop', 'limit', 'deeds', 'most', 'undo', '+', 'A']


def bad_journal(text):
    """The number that BadJournal tells; None if the text is a journal. Also the book by then."""
    if type(text) is not str:
        return 0, None
    lines = text.split('\n')
    number = bad_bench('\n'.join(lines[:3]))
    if number is not None:
        return number, None
    if len(lines) < 4 or lines[3] != 'deeds':
        return 4, None
    book = Book('\n'.join(lines[:3]))
    for number, line in enumerate(lines[4:], 5):
        if not is_done(book, line):
            return number, book
        book.did(line)
    return None, book


def is_done(book, line):
    """Whether a line has the form of a deed, and the book takes it."""
    if re.fullmatch('tell( [^ ]+ [^ ]+)+', line):
        words = line.split(' ')[1:]
        return book.told(tuple(zip(words[::2], words[1::2]))) is None
    if re.fullmatch('drop (0|-?[1-9][0-9]*)', line):
        return book.dropped(int(line.split(' ')[1])) is None
    if re.fullmatch('limit (0|-?[1-9][0-9]*)', line):
        return book.limited(int(line.split(' ')[1])) is None
    return False


class TestJournals(Raising, unittest.TestCase):
    def test_what_is_no_string(self):
        for value in any_values():
            if not isinstance(value, str):
                self.assert_tells(BadJournal, 0, read_journal, value)
        self.assert_tells(BadJournal, 0, read_journal, Bench(HEADS))

    def test_lines_that_are_missing(self):
        for text, number in (('', 1), ('calls a b', 2), ('calls a b\nanswers x y', 3), (HEADS, 4), (HEADS + '\n', 4),
                             ('calls a b\n', 2), ('calls a b\nanswers x y\n', 3), ('\n', 1)):
            self.assert_tells(BadJournal, number, read_journal, text)
        for bad in range(len(LONG.split('\n'))):
            lines = LONG.split('\n')
            del lines[bad]
            number, book = bad_journal('\n'.join(lines))
            if number is None:
                self.assertEqual(journal(read_journal('\n'.join(lines))), book.journal())
            else:
                self.assert_tells(BadJournal, number, read_journal, '\n'.join(lines))
                self.assertGreater(number, bad)

    def test_no_deeds(self):
        bench = read_journal(HEADS + '\ndeeds')
        self.assertEqual((bench, bench.done, journal(bench)), (Bench(HEADS), 0, HEADS + '\ndeeds'))

    def test_a_line_feed_at_the_end(self):
        self.assert_tells(BadJournal, 5, read_journal, HEADS + '\ndeeds\n')
        self.assert_tells(BadJournal, 6, read_journal, HEADS + '\ndeeds\ntell a x\n')
        self.assert_tells(BadJournal, 5, read_journal, HEADS + '\ndeeds\n\ntell a x')

    def test_lines_of_benches(self):
        for text, number in (('calls a b\nanswers x y\nmost 5\ndeeds', 3), ('calls a b\nanswers x y\nmost 2 \ndeeds', 3),
                             ('calls a b\nanswers x\nmost 2\ndeeds', 2), (' ' + HEADS + '\ndeeds', 1), (HEADS + '\ndeed', 4),
                             (HEADS + '\ndeeds ', 4), (HEADS + '\n deeds', 4), (HEADS + '\ntell a x\ndeeds', 4),
                             ('calls a b c\nanswers x y\nmost 4\ndeeds', 3), (HEADS + '\ndeeds\ndeeds', 5),
                             ('deeds\n' + HEADS, 1), ('calls a\nanswers x y\ndeeds', 3)):
            self.assert_tells(BadJournal, number, read_journal, text)

    def test_lines_that_are_no_deeds(self):
        for bad in ('', ' ', 'tell', 'tell ', 'tell a', 'tell a x b', 'tell  a x', 'tell a x ', 'tell a  x', ' tell a x', 'Tell a x',
                    'test a x', 'told a x', 'drop', 'drop ', 'drop a', 'drop 00', 'drop 0 ', 'drop  0', 'drop +0', 'drop -0',
                    'drop 0 0', 'drop 01', 'drop 1_0', 'limit', 'limit 02', 'limit two', 'limit 2 2', 'limit +2', 'limit 2.0',
                    'most 2', 'undo', 'redo', 'known', 'tests', 'sure a', 'keep', 'a x', '2', 'drop0', 'limit -', 'drop --1'):
            self.assert_tells(BadJournal, 6, read_journal, HEADS + '\ndeeds\ntell a x\n' + bad)
            self.assert_tells(BadJournal, 5, read_journal, HEADS + '\ndeeds\n' + bad + '\ntell a x')

    def test_deeds_that_are_refused(self):
        for bad in ('tell a z', 'tell c x', 'tell a y', 'tell' + ' a x' * 13, 'drop 1', 'drop -1', 'drop 999999999', 'limit 0',
                    'limit 5', 'limit -2', 'tell a x a y a x a x', 'limit 123456789', 'tell x a', 'tell ! ?'):
            text = HEADS + '\ndeeds\ntell a x\n'
            if bad == 'tell a x a y a x a x':
                text = text.replace('most 2', 'most 1')
            self.assert_tells(BadJournal, 6, read_journal, text + bad)
            self.assert_tells(BadJournal, 6, read_journal, text + bad + '\nno deed')
        # By the deeds ahead: sixty tests, two hundred nodes, and no device that is left.
        full = HEADS + '\ndeeds' + '\ntell a x' * 60
        self.assertEqual(len(read_journal(full)), 60)
        self.assert_tells(BadJournal, 65, read_journal, full + '\ntell a x')
        self.assertEqual(len(read_journal(full + '\ndrop 59\ntell a x')), 60)
        self.assert_tells(BadJournal, 6, read_journal, HEADS + '\ndeeds\ntell a x a y\nlimit 1')
        self.assert_tells(BadJournal, 7, read_journal, HEADS + '\ndeeds\ntell a x\nlimit 1\ntell a x a y')
        self.assertEqual(read_journal(HEADS + '\ndeeds\ntell a x a y\ndrop 0\nlimit 1').most, 1)

    def test_there_and_back(self):
        bench = read_journal(LONG)
        self.assertEqual(journal(bench), LONG)
        self.assertEqual((bench.done, bench.most, bench.tests.text), (9, 2, 'calls a b\nanswers x y\ntest a x a y'))
        other = Bench(HEADS)
        self.assertEqual(journal(other), HEADS + '\ndeeds')
        other.tell((('a', 'x'), ('b', 'y')))
        other.limit(3)
        other.drop(0)
        self.assertEqual(journal(other), HEADS + '\ndeeds\ntell a x b y\nlimit 3\ndrop 0')
        other.undo()
        self.assertEqual(journal(other), HEADS + '\ndeeds\ntell a x b y\nlimit 3')

    def test_what_was_taken_back_does_not_stand(self):
        bench = read_journal(LONG)
        bench.undo()
        again = read_journal(journal(bench))
        self.assertEqual(again, bench)
        self.assert_tells(NothingToRedo, None, again.redo)
        self.assert_tells(NoTrial, None, again.keep)
        for _ in range(8):
            bench.undo()
            again.undo()
            self.assertTrue(same(journal(bench), journal(again)))
            self.assertEqual((bench.most, bench.tests, bench.done), (again.most, again.tests, again.done))

    def test_within_a_block(self):
        bench = read_journal(LONG)
        with bench.trial():
            bench.limit(4)
            self.assertEqual(journal(bench), LONG + '\nlimit 4')
            self.assertEqual(read_journal(journal(bench)), bench)
        self.assertEqual(journal(bench), LONG)

    def test_texts_with_any_change(self):
        rnd = random.Random(1)
        counted = {}
        for _ in range(1500):
            signs = list(LONG)
            for _ in range(rnd.randint(0, 2)):
                at = rnd.randrange(len(signs))
                signs[at:at + rnd.randint(0, 3)] = rnd.choice(WORDS)
            self.check(''.join(signs), counted)
        for text in variants(LONG, ()):
            self.check(text, counted)
        self.assertGreater(counted[None], 50, counted)
        for number in (1, 2, 3, 4, 5, 6, 8, 12):
            self.assertGreater(counted.get(number, 0), 10, counted)

    def test_any_lines(self):
        rnd = random.Random(2)
        counted = {}
        deeds = ['tell a x', 'tell a x a y', 'tell b y', 'tell b y a x', 'drop 0', 'drop 1', 'limit 1', 'limit 2', 'limit 3',
                 'tell a x b y a y', 'tell a y', 'drop 2', 'limit 4']
        for _ in range(400):
            self.check('\n'.join([HEADS, 'deeds'] + rnd.choices(deeds, k=rnd.randint(0, 8))), counted)
        self.assertGreater(counted[None], 30, counted)
        for number in (5, 6, 7, 8, 9):
            self.assertGreater(counted[number], 5, counted)

    def check(self, text, counted):
        number, book = bad_journal(text)
        if number is not None:
            self.assert_tells(BadJournal, number, read_journal, text)
        else:
            bench = read_journal(text)
            self.assertIs(type(bench), Bench)
            self.assertEqual(journal(bench), text)
            self.assertEqual((bench.tests, bench.most, bench.done), (Tests(book.text()), book.most(), len(book.deeds)))
        counted[number] = counted.get(number, 0) + 1

    def test_names_of_arguments(self):
        bench = read_journal(text=LONG)
        self.assertEqual(journal(bench=bench), LONG)


if __name__ == '__main__':
    unittest.main()
