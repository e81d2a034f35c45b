"""Points 2, 3 and 12: cheapest, shows_cheapest, next_walk."""

import itertools
import random
import unittest

from looks import (
    Plain, Said, agreeing, choices_in_sequence, first_parting, right_passes, rows_agreeing, same, someone_passes, text_of,
)
from raising import Raising
from toldboxes.choosing import cheapest, next_walk, shows_cheapest
from toldboxes.devices import Device
from toldboxes.errors import BadMenu, BadNumber, BoxError, Few, Full, Long, Many
from toldboxes.forms import least
from toldboxes.records import Tests, asked
from toldboxes.sortings import sortings
from toldboxes.suites import suite
from values import (
    ENOUGH, FEW, LAMP, MENU, STEADY, THREE, any_values, bad_menus, random_text, random_walks, renamed, some_variants,
)



def chosen(device, menu, choice):
    return Said(asked(device, tuple(menu[number] for number in choice)).text)


def look_at_cheapest(device, m, menu, reset):
    """The first choice that proves, its price, and those ahead of it; None if there is none."""
    plain = Plain(device.text)
    ahead = []
    for choice, price in choices_in_sequence(menu, reset):
        if not someone_passes(plain, chosen(device, menu, choice), m):
            return price, choice, ahead
        ahead.append(choice)
    return None


def right_cheapest(device, m, menu, found, value):
    plain = Plain(device.text)
    if type(value) is not tuple or not value:
        return False
    if same(value[0], 'passes'):
        return right_passes(plain, chosen(device, menu, range(len(menu))), m, value[1:])
    if found is None or len(value) != 4 or not same(value[:3], ('choice', found[0], found[1])):
        return False
    if type(value[3]) is not tuple or len(value[3]) != len(found[2]):
        return False
    for choice, reason in zip(found[2], value[3]):
        if type(reason) is not tuple or not same(reason[:1], (choice,)):
            return False
        if not right_passes(plain, chosen(device, menu, choice), m, reason[1:]):
            return False
    return True


def some_menus(seed, many):
    """Devices and menus: some with all walks of a suite among them, some without."""
    rnd = random.Random(seed)
    for turn in range(many):
        calls = rnd.sample(['a', 'b', 'c'], rnd.choice((1, 1, 2, 2, 3)))
        answers = rnd.sample(['x', 'y', 'z'], 2 if turn % 3 else 3)
        device = Device(random_text(rnd, calls, answers, rnd.randint(1, 3 if len(calls) == 1 else 2)))
        walks = {walk for walk in random_walks(rnd, calls, rnd.randint(1, 4), 12)}
        if turn % 4:
            tests = suite(device, 0)
            if len(tests) <= 5:
                walks = set(tests.walks) | set(list(walks)[:6 - len(tests)])
        menu = sorted(walks)
        rnd.shuffle(menu)
        yield device, tuple(menu)


def numbers_for(device):
    """The numbers m that are taken."""
    return range(len(least(device)), 4 if len(device.calls) == 3 else 5)


class TestCheapestErrors(Raising, unittest.TestCase):
    CALLS = ((cheapest, ()), (shows_cheapest, (None,)), (shows_cheapest, (('passes', LAMP.text, ()),)))

    def test_numbers(self):
        three = Device('calls a b c\nanswers x y\nstates s\nrow s a x s\nrow s b x s\nrow s c x s')
        for call, more in self.CALLS:
            for value in any_values() + [0, 5, (), '2', (2,), True]:
                for menu, reset in ((MENU, 2), ((), -1)):
                    self.assert_tells(BadNumber, value, call, LAMP, value, menu, reset, *more)
            self.assert_tells(BadNumber, 4, call, three, 4, MENU, 2, *more)

    def test_few(self):
        chain = Device('calls a\nanswers x y\nstates p q r s\nrow p a x q\nrow q a x r\nrow r a x s\nrow s a y s')
        for call, more in self.CALLS:
            for device, many in ((LAMP, 2), (THREE, 2), (chain, 4), (chain.begun('q'), 3)):
                for m in range(1, many):
                    for menu, reset in (((('a',),), 2), ((), None)):
                        self.assert_tells(Few, many, call, device, m, menu, reset, *more)
                call(device, many, (('a',),), 0, *more)

    def test_menus(self):
        for call, more in self.CALLS:
            for value in bad_menus():
                for reset in (0, 99, -1, 100, None, True):
                    self.assert_tells(BadMenu, value, call, LAMP, 2, value, reset, *more)

    def test_resets(self):
        bad = [value for value in any_values() if type(value) is not int or not 0 <= value <= 99]
        for call, more in self.CALLS:
            for value in bad + [100, -1, (), '0', (0,), True, False]:
                self.assert_tells(BadNumber, value, call, LAMP, 2, MENU, value, *more)

    def test_names_of_arguments(self):
        told = cheapest(device=LAMP, m=2, menu=MENU, reset=2)
        self.assertEqual(told[:3], ('choice', 8, (3,)))
        self.assertIs(shows_cheapest(device=LAMP, m=2, menu=MENU, reset=2, value=told), True)


class TestCheapest(Raising, unittest.TestCase):
    def test_by_a_look(self):
        counted = {'choice': 0, 'passes': 0, 'several': 0}
        rnd = random.Random(2)
        for device, menu in some_menus(3, 120):
            for m in numbers_for(device):
                reset = rnd.choice((0, 1, 3, 50, 99))
                found = look_at_cheapest(device, m, menu, reset)
                # What has more than 600 sortings where it is proved needs eight walks, or nine: Long does not come.
                told = cheapest(device, m, menu, reset)
                counted[told[0]] += 1
                self.assertEqual(told[0], 'choice' if found else 'passes')
                self.assertTrue(right_cheapest(device, m, menu, found, told), told)
                self.assertIs(shows_cheapest(device, m, menu, reset, told), True)
                counted['several'] += told[0] == 'choice' and len(told[2]) > 1
        self.assertGreater(min(counted.values()), 20)

    def test_sequence_of_choices(self):
        # The same walks in another sequence, and other prices.
        for reset in (0, 1, 2, 5, 99):
            for menu in itertools.permutations(MENU):
                found = look_at_cheapest(LAMP, 2, menu, reset)
                told = cheapest(LAMP, 2, menu, reset)
                self.assertTrue(same(told[:3], ('choice', found[0], found[1])))
                self.assertEqual([reason[0] for reason in told[3]], found[2])
        # As dear, and the fewer walks stand first; as many, and the tuples tell.
        menu = (('b', 'a'), ('a', 'a', 'a'), ('a', 'b', 'a'), ('a', 'a', 'a', 'b', 'b', 'a', 'b', 'b'))
        for reset in (0, 1, 2, 3):
            found = look_at_cheapest(LAMP, 2, menu, reset)
            self.assertEqual(cheapest(LAMP, 2, menu, reset)[1:3], found[:2])

    def test_one_and_six_walks(self):
        one = Device('calls a\nanswers x y\nstates s\nrow s a x s')
        self.assertEqual(cheapest(one, 1, (('a',),), 99)[:3], ('choice', 100, (0,)))
        menu = tuple(('a',) * many for many in (6, 5, 4, 3, 2, 1))
        for m in (1, 2, 3, 4):
            told = cheapest(one, m, menu, 0)
            self.assertEqual(told[:3], ('choice', m, (6 - m,)))
            self.assertIs(shows_cheapest(one, m, menu, 0, told), True)
        self.assertEqual(cheapest(one, 2, (('a',),), 0)[0], 'passes')

    def test_reset_0_and_99(self):
        self.assertEqual(cheapest(LAMP, 2, MENU, 0)[:3], ('choice', 6, (3,)))
        self.assertEqual(cheapest(LAMP, 2, MENU, 99)[:3], ('choice', 105, (3,)))
        self.assertEqual(cheapest(LAMP, 2, MENU[:3], 0)[:3], ('choice', 8, (0, 1, 2)))
        self.assertEqual(cheapest(LAMP, 2, MENU[:3], 99)[:3], ('choice', 305, (0, 1, 2)))

    def test_devices_with_alike_states(self):
        told = cheapest(THREE, 2, MENU, 2)
        self.assertEqual(told[:3], ('choice', 8, (3,)))
        self.assertIs(shows_cheapest(THREE, 2, MENU, 2, told), True)
        self.assertIs(shows_cheapest(LAMP, 2, MENU, 2, told), True)
        self.assertEqual(told[3][0][0], ())


class TestShowsCheapest(unittest.TestCase):
    def test_any_values(self):
        told = cheapest(LAMP, 2, MENU, 2)
        fails = cheapest(LAMP, 2, MENU[:2], 2)
        self.assertEqual((told[0], fails[0]), ('choice', 'passes'))
        for value in any_values() + [0, 1, 8, (), (3,), ('choice',), ('passes',), ('choice', 8, (3,)), ('passes', LAMP.text)]:
            for menu, right in ((MENU, told), (MENU[:2], fails)):
                self.assertIs(shows_cheapest(LAMP, 2, menu, 2, value), False)
                self.assertIs(shows_cheapest(LAMP, 2, menu, 2, right + (value,)), False)
                for at in range(len(right)):
                    if not same(value, right[at]):
                        changed = right[:at] + (value,) + right[at + 1:]
                        self.assertIs(shows_cheapest(LAMP, 2, menu, 2, changed), False, changed)
            for at, reason in enumerate(told[3]):
                for reasons in (told[3][:at] + (value,) + told[3][at + 1:], told[3][:at] + ((value,) + reason[1:],)):
                    self.assertIs(shows_cheapest(LAMP, 2, MENU, 2, told[:3] + (reasons,)), False)

    def test_what_is_right_but_for_one_part(self):
        rnd = random.Random(4)
        counted = {True: 0, False: 0}
        for device, menu in [(LAMP, MENU), (LAMP, MENU[:2]), *some_menus(5, 30)]:
            m = len(least(device))
            reset = rnd.choice((0, 1, 2))
            found = look_at_cheapest(device, m, menu, reset)
            for value in some_variants(cheapest(device, m, menu, reset), 110, rnd.random()):
                expected = right_cheapest(device, m, menu, found, value)
                self.assertIs(shows_cheapest(device, m, menu, reset, value), expected, (device.text, m, menu, value))
                counted[expected] += 1
        self.assertGreater(counted[True], 50)
        self.assertGreater(counted[False], 3000)

    def test_reasons_that_others_made(self):
        rnd = random.Random(6)
        made = 0
        for device, menu in some_menus(7, 60):
            plain = Plain(device.text)
            m = len(least(device))
            if m > {1: 3, 2: 2, 3: 1}[len(device.calls)]:
                continue
            found = look_at_cheapest(device, m, menu, 1)
            if found is None:
                continue
            reasons = []
            for choice in found[2]:
                others = agreeing(chosen(device, menu, choice), m)
                other = rnd.choice([one for one in others if first_parting(plain, one) is not None])
                walk = first_parting(plain, other) + random_walks(rnd, device.calls, 1, 5)[0]
                reasons.append((choice, text_of(other), walk))
            value = ('choice', found[0], found[1], tuple(reasons))
            self.assertIs(shows_cheapest(device, m, menu, 1, value), True)
            made += 1
            for number in range(len(reasons)):
                fewer = value[:3] + (value[3][:number] + value[3][number + 1:],)
                self.assertIs(shows_cheapest(device, m, menu, 1, fewer), False)
        self.assertGreater(made, 15)

    def test_another_choice_that_proves(self):
        told = cheapest(LAMP, 2, MENU, 2)
        reasons = told[3]
        for choice, price in ((((0, 1, 2)), 14), ((2, 3), 13), ((3, 3), 16), ((1, 3), 13)):
            self.assertIs(shows_cheapest(LAMP, 2, MENU, 2, ('choice', price, choice, reasons)), False)
        self.assertIs(shows_cheapest(LAMP, 2, MENU, 2, ('choice', 8, [3], reasons)), False)
        self.assertIs(shows_cheapest(LAMP, 2, MENU, 2, ('choice', 8, (3,), list(reasons))), False)
        self.assertIs(shows_cheapest(LAMP, 2, MENU, 2, ('choice', 8, (3,), reasons[::-1])), False)
        self.assertIs(shows_cheapest(LAMP, 2, MENU, 2, ('choice', 8, (3,), reasons + reasons[-1:])), False)
        one = Device('calls a\nanswers x y\nstates s\nrow s a x s')
        told = cheapest(one, 1, (('a',),), 0)
        self.assertEqual(told[:3], ('choice', 1, (0,)))
        for price, choice in ((True, (0,)), (1, (False,)), (True, (False,)), (1, (0, 0)), (1, 0), ('1', (0,))):
            self.assertIs(shows_cheapest(one, 1, (('a',),), 0, ('choice', price, choice, told[3])), False)


def many_nodes(device, number):
    """Tests as a device answers them that have just so many nodes, and fewer than sixty rows."""
    rnd = random.Random(number)
    walks, nodes = [], {()}
    while len(nodes) < number:
        walk = tuple(rnd.choice(device.calls) for _ in range(12))
        for many in range(1, 13):
            if len(nodes) == number:
                walk = walk[:many - 1]
                break
            nodes.add(walk[:many])
        walks.append(walk)
    return asked(device, tuple(walks))


class TestNextWalk(Raising, unittest.TestCase):
    def test_by_a_look(self):
        rnd = random.Random(8)
        counted = {'long': 0, 'least': 0, 0: 0}
        for turn in range(150):
            calls = rnd.sample(['a', 'b', 'c'], rnd.randint(1, 3))
            answers = rnd.sample(['x', 'y', 'z'], 2 if turn % 3 else 3)
            device = Device(random_text(rnd, calls, answers, rnd.randint(1, 3)))
            tests = asked(device, random_walks(rnd, calls, rnd.randint(0, 4), 4))
            further = [node + (call,) for node in tests.nodes for call in calls if node + (call,) not in tests]
            menu = tuple(rnd.sample(further, min(len(further), rnd.randint(1, 6))))
            for m in (1, 2, 3) if len(calls) == 3 else (1, 2, 3, 4):
                most = []
                for walk in menu:
                    told = [tests.told(walk[:-1]) + (answer,) for answer in answers]
                    lines = [' '.join(['test'] + [f'{c} {a}' for c, a in zip(walk, heard)]) for heard in told]
                    most.append([sum(1 for _ in itertools.islice(rows_agreeing(Said(f'{tests.text}\n{line}'), m), 601))
                                 for line in lines])
                if max(map(max, most)) > 600:
                    self.assert_tells(Long, 600, next_walk, tests, m, menu)
                    counted['long'] += 1
                    continue
                most = [max(numbers) for numbers in most]
                self.assertTrue(same(next_walk(tests, m, menu), (most.index(min(most)), min(most))))
                counted['least'] += most.index(min(most)) > 0
                counted[0] += min(most) == 0
        self.assertGreater(min(counted.values()), 10, counted)

    def test_wrong_numbers(self):
        three = Tests('calls a b c\nanswers x y')
        for value in any_values() + [0, 5, (), '2', (2,), True]:
            for menu in ((('b', 'b'),), (), None):
                self.assert_tells(BadNumber, value, next_walk, FEW, value, menu)
        self.assert_tells(BadNumber, 4, next_walk, three, 4, (('a',),))
        self.assertEqual(next_walk(three, 3, (('a',),))[0], 0)

    def test_wrong_menus(self):
        ahead = [(('a',),), (('b', 'b'), ('a', 'a')), ((),), (('b', 'b'), ('b',)), (('a', 'b', 'a'),),
                 (('b', 'b'), ('b', 'b', 'a')), (('b', 'b', 'b'),), (('a', 'a'),)]
        for value in bad_menus() + ahead:
            self.assert_tells(BadMenu, value, next_walk, FEW, 2, value)
        full = Tests(FEW.text + '\ntest a x' * 58)
        for value in bad_menus() + ahead:
            self.assert_tells(BadMenu, value, next_walk, full, 2, value)
        long = asked(STEADY, (('a',) * 12,))
        self.assert_tells(BadMenu, (('a',) * 13,), next_walk, long, 2, (('a',) * 13,))
        self.assert_tells(BadMenu, (('a',) * 12,), next_walk, long, 2, (('a',) * 12,))
        self.assertEqual(next_walk(asked(STEADY, (('a',) * 11,)), 1, (('a',) * 12,)), (0, 1))

    def test_full(self):
        menu = (('b', 'b'),)
        for rows in (57, 58):
            tests = Tests(FEW.text + '\ntest a x' * rows)
            self.assertEqual(len(tests), rows + 2)
            if rows == 58:
                self.assert_tells(Full, 60, next_walk, tests, 2, menu)
            else:
                self.assertEqual(next_walk(tests, 2, menu), (0, 2))

    def test_two_hundred_nodes(self):
        for number in (199, 200):
            tests = many_nodes(LAMP, number)
            self.assertEqual(len(tests.nodes), number)
            self.assertLess(len(tests), 60)
            menu = tuple([node + (call,) for node in tests.nodes for call in 'ab' if node + (call,) not in tests][:1])
            if number == 200:
                self.assert_tells(Many, 200, next_walk, tests, 2, menu)
                both = Tests('\n'.join([tests.text] + [tests.text.split('\n')[-1]] * (60 - len(tests))))
                self.assert_tells(Full, 60, next_walk, both, 2, menu)
                self.assert_tells(BadMenu, (), next_walk, both, 2, ())
            else:
                self.assertEqual(next_walk(tests, 2, menu)[0], 0)

    def test_far_more_than_six_hundred_sortings(self):
        tests = asked(STEADY, tuple(itertools.product('ab', repeat=3)))
        self.assert_tells(Long, 600, next_walk, tests, 4, (('a',) * 4,))
        self.assertGreater(next_walk(tests, 3, (('a',) * 4,))[1], 0)

    def test_long_by_one_walk_alone(self):
        # The walk by which more than 600 are left is not the one that would be told.
        tests = Tests('calls a b\nanswers x y\ntest b x b x\ntest a x a x b x\ntest b x a x\ntest a x a x a y b x')
        self.assertEqual(sortings(tests, 4), 600)
        further = [node + (call,) for node in tests.nodes for call in 'ab' if node + (call,) not in tests]
        told = {}
        for walk in further:
            try:
                told[walk] = next_walk(tests, 4, (walk,))
            except Long:
                told[walk] = None
        good = [walk for walk in further if told[walk] is not None]
        bad = [walk for walk in further if told[walk] is None]
        self.assertTrue(bad)
        for walk in good[:2]:
            for other in bad[:2]:
                self.assert_tells(Long, 600, next_walk, tests, 4, (walk, other))
                self.assert_tells(Long, 600, next_walk, tests, 4, (other, walk))

    def test_nothing_fits(self):
        self.assertEqual(next_walk(FEW, 1, (('b', 'b'), ('a', 'b'))), (0, 0))
        one = Tests('calls a\nanswers x y\ntest a x')
        self.assertEqual(next_walk(one, 1, (('a', 'a'),)), (0, 1))
        self.assertEqual(next_walk(Tests('calls a\nanswers x y'), 1, (('a',),)), (0, 1))

    def test_six_walks_and_the_first_of_several(self):
        menu = (('a', 'b'), ('b', 'b'), ('a', 'a', 'a'), ('a', 'a', 'b'), ('b', 'a', 'a'), ('b', 'a', 'b'))
        for walks in itertools.permutations(menu, 6):
            number, most = next_walk(FEW, 2, walks)
            alone = [next_walk(FEW, 2, (walk,))[1] for walk in walks]
            self.assertEqual((number, most), (alone.index(min(alone)), min(alone)))
            if walks[0] == menu[2]:
                break

    def test_names_of_arguments(self):
        self.assertEqual(next_walk(tests=FEW, m=2, menu=(('a', 'b'), ('b', 'b'))), (1, 2))


class TestNames(unittest.TestCase):
    NAMES = {'calls': {'a': 'q', 'b': 'calls'}, 'answers': {'x': 'choice', 'y': 'a'},
             'states': {'p': 'z', 'q': 'a', 'u': 's1', 'v': 's0', 'w': 'c'}}

    def test_other_names(self):
        words = self.NAMES['calls']
        for device in (LAMP, THREE):
            other = Device(renamed(device.text, self.NAMES))
            for menu in (MENU, MENU[:3], MENU[1:3]):
                turned = tuple(tuple(words[call] for call in walk) for walk in menu)
                told, again = cheapest(device, 2, menu, 3), cheapest(other, 2, turned, 3)
                self.assertEqual(again[0], told[0])
                if told[0] == 'choice':
                    self.assertEqual(again[:3], told[:3])
                self.assertIs(shows_cheapest(other, 2, turned, 3, again), True)
        others = Tests(renamed(FEW.text, self.NAMES))
        self.assertEqual(next_walk(others, 2, (('q', 'calls'), ('calls', 'calls'))), (1, 2))

    def test_nothing_is_changed(self):
        device, tests = Device(LAMP.text), Tests(FEW.text)
        for _ in range(2):
            for m in (0, 1, 2, 3):
                try:
                    self.assertTrue(same(cheapest(device, m, MENU, 1), cheapest(LAMP, m, MENU, 1)))
                except BoxError:
                    pass
            self.assertEqual(next_walk(tests, 2, (('a', 'b'), ('b', 'b'))), (1, 2))
            self.assertEqual((device, tests), (LAMP, FEW))
            self.assertEqual(MENU, (('b', 'a'), ('a', 'a', 'a'), ('a', 'b', 'a'), ('b', 'a', 'a', 'a', 'b', 'a')))
            self.assertEqual((tests.rows, tests.nodes), (FEW.rows, FEW.nodes))
        self.assertEqual(asked(LAMP, MENU[:3]), ENOUGH)


if __name__ == '__main__':
    unittest.main()
