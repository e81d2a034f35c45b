"""Points 2, 3 and 14: blamed, mended, shows_mended, halving."""

import itertools
import random
import unittest

from looks import Plain, Said, right_version, same, text_of, unlike_ones, versions_of
from raising import Raising
from toldboxes.blaming import blamed, halving, mended, shows_mended
from toldboxes.devices import Device
from toldboxes.errors import BadLot, BadMenu, BadNumber, BoxError, OtherCalls
from toldboxes.records import Tests, asked
from values import (
    ENOUGH, FEW, LAMP, MENU, OTHER_HEADS, STEADY, THREE, any_values, bad_lots, bad_menus, random_text, random_walks, renamed,
    some_variants,
)

LOT = (('q', 'a'),)
SEEN = Tests('calls a b\nanswers x y\ntest a x a y a y')
NONE = Tests('calls a b\nanswers x y')


def look_at_blamed(device, said, many):
    """All least tuples of at most so many rows that mend, and all versions by these that agree."""
    rows = sorted(device.rows)
    found = {}
    for size in range(many + 1):
        for lot in itertools.combinations(rows, size):
            if not any(set(other) <= set(lot) for other in found):
                ways = [version for version in versions_of(device, lot) if said.agrees(version)]
                if ways:
                    found[lot] = ways
    return found


def some_cases(seed, many, most=3):
    """Devices, and tests as another one with some other rows answers, or any other one."""
    rnd = random.Random(seed)
    for turn in range(many):
        calls = rnd.sample(['a', 'b', 'c'], rnd.choice((1, 2, 2, 3)))
        answers = rnd.sample(['x', 'y', 'z'], 2 if turn % 3 else 3)
        device = Device(random_text(rnd, calls, answers, rnd.randint(1, min(most, 2 if len(calls) == 3 else most))))
        other = device if turn % 2 else Device(random_text(rnd, calls, answers, rnd.randint(1, 3)))
        rows = sorted((state, call) for state in device.states for call in calls)
        for state, call in rnd.sample(rows, min(len(rows), rnd.choice((0, 1, 1, 2, 2, 3)))) if turn % 2 else ():
            other = other.turned(state, call, rnd.choice(answers), rnd.choice(device.states))
        walks = random_walks(rnd, calls, rnd.choice((0, 1, 2, 3, 4)), rnd.choice((3, 6, 9)))
        yield device, asked(other, walks)


class TestErrors(Raising, unittest.TestCase):
    def test_other_calls(self):
        for heads in OTHER_HEADS:
            tests = Tests(heads)
            for many in (1, 2, 3, None):
                self.assert_tells(OtherCalls, tests, blamed, LAMP, tests, many)
                self.assert_tells(OtherCalls, tests, halving, LAMP, tests, many, ())
            for lot in (LOT, ()):
                self.assert_tells(OtherCalls, tests, mended, LAMP, tests, lot)
                self.assert_tells(OtherCalls, tests, shows_mended, LAMP, tests, lot, ('none',))

    def test_numbers(self):
        for value in any_values() + [0, 3, (), '1', (1,), True]:
            self.assert_tells(BadNumber, value, blamed, LAMP, SEEN, value)
            self.assert_tells(BadNumber, value, blamed, LAMP, FEW, value)
            for menu in (MENU, ()):
                self.assert_tells(BadNumber, value, halving, LAMP, SEEN, value, menu)

    def test_lots(self):
        for value in bad_lots():
            for tests in (SEEN, FEW):
                self.assert_tells(BadLot, value, mended, LAMP, tests, value)
                self.assert_tells(BadLot, value, shows_mended, LAMP, tests, value, ('none',))

    def test_menus(self):
        for value in bad_menus():
            for many in (1, 2):
                self.assert_tells(BadMenu, value, halving, LAMP, SEEN, many, value)

    def test_names_of_arguments(self):
        self.assertEqual(blamed(device=LAMP, tests=SEEN, many=1), ((('q', 'a'),),))
        told = mended(device=LAMP, tests=SEEN, lot=LOT)
        self.assertIs(shows_mended(device=LAMP, tests=SEEN, lot=LOT, value=told), True)
        self.assertEqual(halving(device=LAMP, tests=SEEN, many=1, menu=(('b',), ('a', 'a', 'b'))), (0, 1))


class TestBlamed(unittest.TestCase):
    def test_by_a_look(self):
        counted = {'none': 0, (0,): 0, (1,): 0, (2,): 0, (1, 2): 0}
        for device, tests in some_cases(1, 700):
            plain, said = Plain(device.text), Said(tests.text)
            for many in (1, 2):
                expected = tuple(sorted(look_at_blamed(plain, said, many)))
                self.assertTrue(same(blamed(device, tests, many), expected), (device.text, tests.text))
            kind = tuple(sorted({len(lot) for lot in expected})) or 'none'
            counted[kind] += 1
        self.assertGreater(min(counted.values()), 4, counted)

    def test_devices_that_agree(self):
        for device, tests in ((LAMP, FEW), (LAMP, NONE), (THREE, ENOUGH), (STEADY, NONE)):
            for many in (1, 2):
                self.assertEqual(blamed(device, tests, many), ((),))

    def test_nothing_mends(self):
        tests = Tests('calls a b\nanswers x y\ntest a x a y')
        for many in (1, 2):
            self.assertEqual(blamed(STEADY, tests, many), ())
        self.assertEqual(blamed(LAMP.begun('q'), Tests('calls a b\nanswers x y\ntest a x b x a x b y'), 1), ())

    def test_as_many_rows_as_can_be(self):
        four = Device(random_text(random.Random(2), ['a', 'b', 'c'], ['x', 'y', 'z'], 4))
        slips = four
        for state, call in (('s0', 'a'), ('s2', 'c')) if 's0' in four and 's2' in four else zip(four.states, 'ac'):
            answer, goal = four.row(state, call)
            slips = slips.turned(state, call, 'x' if answer != 'x' else 'y', goal)
        tests = asked(slips, random_walks(random.Random(3), 'abc', 12, 6))
        told = blamed(four, tests, 2)
        plain, said = Plain(four.text), Said(tests.text)
        self.assertTrue(told)
        for lot in told:
            self.assertTrue(any(said.agrees(version) for version in versions_of(plain, lot)))
        for lot in itertools.combinations(sorted(plain.rows), 1):
            self.assertEqual(lot in told, any(said.agrees(version) for version in versions_of(plain, lot)))

    def test_ascending_by_names_and_not_in_sequence(self):
        device = Device('calls b a\nanswers x y\nstates s r\nrow s b x r\nrow s a x r\nrow r b x s\nrow r a x s')
        tests = Tests('calls b a\nanswers x y\ntest b x a y')
        told = blamed(device, tests, 2)
        self.assertEqual(told[0], (('r', 'a'),))
        self.assertEqual(list(told), sorted(told))
        self.assertTrue(all(list(lot) == sorted(lot) for lot in told))


class TestMended(unittest.TestCase):
    def test_by_a_look(self):
        rnd = random.Random(4)
        counted = {'device': 0, 'none': 0}
        for device, tests in some_cases(5, 260):
            plain, said = Plain(device.text), Said(tests.text)
            rows = sorted(plain.rows)
            lot = tuple(rnd.sample(rows, min(len(rows), rnd.choice((1, 2, 3)))))
            if (len(plain.states) * len(plain.answers)) ** len(lot) > 300:
                lot = lot[:2]
            told = mended(device, tests, lot)
            mends = any(said.agrees(version) for version in versions_of(plain, lot))
            self.assertTrue(self.right(plain, said, lot, mends, told))
            self.assertEqual(told[0], 'device' if mends else 'none')
            self.assertIs(shows_mended(device, tests, lot, told), True)
            counted[told[0]] += 1
        self.assertGreater(min(counted.values()), 30)

    def right(self, device, said, lot, mends, value):
        if same(value, ('none',)):
            return not mends
        if type(value) is not tuple or len(value) != 2 or not same(value[0], 'device'):
            return False
        version = right_version(device, lot, value[1])
        return version is not None and said.agrees(version)

    def test_what_is_right_but_for_one_part(self):
        rnd = random.Random(6)
        counted = {True: 0, False: 0}
        for device, tests in [(LAMP, SEEN), *some_cases(7, 60)]:
            plain, said = Plain(device.text), Said(tests.text)
            rows = sorted(plain.rows)
            lot = tuple(rnd.sample(rows, min(len(rows), rnd.choice((1, 2)))))
            mends = any(said.agrees(version) for version in versions_of(plain, lot))
            for value in some_variants(mended(device, tests, lot), 120, rnd.random()):
                expected = self.right(plain, said, lot, mends, value)
                self.assertIs(shows_mended(device, tests, lot, value), expected, (device.text, tests.text, lot, value))
                counted[expected] += 1
        self.assertGreater(counted[True], 50)
        self.assertGreater(counted[False], 2000)

    def test_any_values(self):
        right = LAMP.turned('q', 'a', 'y', 'q').text
        for value in any_values() + [0, 1, (), 'none', ['none'], ('none', ()), ('device',), right, ('device', right, ())]:
            for lot in (LOT, (('q', 'b'),)):
                self.assertIs(shows_mended(LAMP, SEEN, lot, value), False)
                self.assertIs(shows_mended(LAMP, SEEN, lot, ('device', value)), value is right and lot is LOT)
                self.assertIs(shows_mended(LAMP, SEEN, lot, (value, right)), False)
        self.assertIs(shows_mended(LAMP, SEEN, LOT, ('none',)), False)
        self.assertIs(shows_mended(LAMP, SEEN, (('q', 'b'),), ('none',)), True)

    def test_all_versions(self):
        counted = 0
        for device, tests in some_cases(8, 40, 2):
            plain, said = Plain(device.text), Said(tests.text)
            rows = sorted(plain.rows)[:2]
            for version in versions_of(plain, rows):
                text = text_of(version)
                for lot in (tuple(rows[:1]), tuple(rows)):
                    expected = right_version(plain, lot, text) is not None and said.agrees(version)
                    self.assertIs(shows_mended(device, tests, lot, ('device', text)), expected)
                    counted += expected
        self.assertGreater(counted, 40)

    def test_devices_that_agree(self):
        told = mended(LAMP, FEW, (('q', 'b'),))
        self.assertEqual(told[0], 'device')
        self.assertIs(shows_mended(LAMP, FEW, (('q', 'b'),), ('device', LAMP.text)), True)
        self.assertEqual(mended(LAMP, NONE, LOT)[0], 'device')
        self.assertEqual(mended(STEADY, Tests('calls a b\nanswers x y\ntest a x a y'), (('s', 'a'),)), ('none',))


class TestHalving(unittest.TestCase):
    def test_by_a_look(self):
        rnd = random.Random(9)
        counted = {'suspects': 0, 'none': 0, 'later': 0}
        for device, tests in some_cases(10, 500):
            plain, said = Plain(device.text), Said(tests.text)
            menu = tuple(sorted({walk for walk in random_walks(rnd, device.calls, rnd.randint(1, 6), rnd.choice((2, 5, 12)))}))
            for many in (1, 2):
                found = look_at_blamed(plain, said, many)
                suspects = unlike_ones(version for ways in found.values() for version in ways)
                most = []
                for walk in menu:
                    heard = [suspect.heard(walk) for suspect in suspects]
                    most.append(max([heard.count(answers) for answers in heard], default=0))
                told = halving(device, tests, many, menu)
                self.assertTrue(same(told, (most.index(min(most)), min(most))), (device.text, tests.text, menu))
                counted['suspects'] += len(suspects) > 3
                counted['none'] += not suspects
                counted['later'] += told[0] > 0
        self.assertGreater(min(counted.values()), 10, counted)

    def test_no_suspects(self):
        tests = Tests('calls a b\nanswers x y\ntest a x a y')
        for many in (1, 2):
            self.assertEqual(halving(STEADY, tests, many, MENU), (0, 0))

    def test_devices_that_agree(self):
        for many in (1, 2):
            self.assertEqual(halving(LAMP, FEW, many, MENU), (0, 1))
            self.assertEqual(halving(THREE, NONE, many, (('b',),)), (0, 1))

    def test_one_and_six_walks(self):
        six = (('b',), ('a',), ('b', 'b'), ('a', 'b'), ('a', 'a', 'b'), ('a', 'a', 'a', 'b'))
        for menu in (six, six[::-1], six[:1]):
            for many in (1, 2):
                number, most = halving(LAMP, SEEN, many, menu)
                alone = [halving(LAMP, SEEN, many, (walk,)) for walk in menu]
                self.assertEqual({one[0] for one in alone}, {0})
                self.assertEqual((number, most), min((one[1], at) for at, one in enumerate(alone))[::-1])


class TestNames(unittest.TestCase):
    NAMES = {'calls': {'a': 'q', 'b': 'calls'}, 'answers': {'x': 'choice', 'y': 'a'},
             'states': {'p': 'z', 'q': 'a', 'u': 's1', 'v': 's0', 'w': 'c'}}

    def test_other_names(self):
        words, states = self.NAMES['calls'], self.NAMES['states']
        tests = Tests('calls a b\nanswers x y\ntest a x b x a x\ntest b y b x')
        for device in (LAMP, THREE):
            other = Device(renamed(device.text, self.NAMES))
            for record in (SEEN, tests, FEW):
                others = Tests(renamed(record.text, self.NAMES))
                for many in (1, 2):
                    expected = tuple(sorted(tuple(sorted((states[s], words[c]) for s, c in lot))
                                            for lot in blamed(device, record, many)))
                    self.assertEqual(blamed(other, others, many), expected)
                    menu = tuple(tuple(words[call] for call in walk) for walk in MENU)
                    self.assertEqual(halving(other, others, many, menu), halving(device, record, many, MENU))

    def test_nothing_is_changed(self):
        device, tests = Device(LAMP.text), Tests(SEEN.text)
        for _ in range(2):
            for many in (0, 1, 2):
                try:
                    self.assertTrue(same(blamed(device, tests, many), blamed(LAMP, SEEN, many)))
                    self.assertTrue(same(halving(device, tests, many, MENU), halving(LAMP, SEEN, many, MENU)))
                except BoxError:
                    pass
            self.assertTrue(same(mended(device, tests, LOT), mended(LAMP, SEEN, LOT)))
            self.assertEqual((device, tests), (LAMP, SEEN))


if __name__ == '__main__':
    unittest.main()
