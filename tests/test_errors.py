"""Point 25, and the interface's row for errors.py."""

import unittest

from toldboxes import errors
from values import any_values

NAMES = (
    'BadDevice NoState NoCall NoAnswer BadWalk OtherCalls BadTests Quarrel Many NoNode BadTest Full NoTest BadWalks '
    'BadNumber Long Against Few Wide BadMenu BadLot NotLeast BadDevices BadLog BadTellings BadWatch Unfit BadBench '
    'Contrary NothingToUndo NothingToRedo NoTrial BadJournal BadLine'
).split(' ')


class TestErrors(unittest.TestCase):
    def test_each_error_stands_directly_below_box_error(self):
        self.assertEqual(errors.BoxError.__bases__, (ValueError,))
        for name in NAMES:
            self.assertEqual(getattr(errors, name).__bases__, (errors.BoxError,), name)

    def test_there_are_no_others(self):
        found = [name for name, value in vars(errors).items() if isinstance(value, type)]
        self.assertEqual(sorted(found), sorted(NAMES + ['BoxError']))

    def test_all_are_defined_in_errors(self):
        for name in NAMES + ['BoxError']:
            self.assertEqual(getattr(errors, name).__module__, 'toldboxes.errors')

    def test_any_value_is_kept(self):
        for name in NAMES + ['BoxError']:
            for value in any_values() + [(), 0, 'a', (0, 1), ('a',)]:
                self.assertIs(getattr(errors, name)(value).value, value)

    def test_they_are_raised_and_caught(self):
        for name in NAMES:
            with self.assertRaises(errors.BoxError) as caught:
                raise getattr(errors, name)((1, name))
            self.assertEqual(caught.exception.value, (1, name))
            with self.assertRaises(ValueError):
                raise getattr(errors, name)(None)


if __name__ == '__main__':
    unittest.main()
