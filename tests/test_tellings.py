"""Points 2, 3 and 18: Tellings, wrongs, nearest, voted, stands, shows_stands."""

import itertools
import random
import unittest

from looks import Plain, Said, all_to, bad_device, bad_tests, first_parting, is_whole, same, walks_to
from raising import Raising
from toldboxes.devices import Device
from toldboxes.errors import BadDevices, BadNumber, BadTellings, Many, OtherCalls
from toldboxes.forms import least
from toldboxes.records import Tests, asked
from toldboxes.suites import suite
from toldboxes.tellings import Tellings, nearest, shows_stands, stands, voted, wrongs
from values import (
    ENOUGH, FEW, LAMP, OTHER_HEADS, RING, STEADY, THREE, any_values, bad_devices, random_text, random_walks, renamed,
    some_variants, variants,
)

HEADS = 'calls a b\nanswers x y'
SAID = Tellings(HEADS + '\ntold a x a y\ntold a x a x\ntold a x a y\ntold b y')
NONE = Tellings(HEADS)
CALM = Device('calls a\nanswers x y\nstates s\nrow s a x s')


def lines_of(*rows):
    return '\n'.join([HEADS] + [f'told {row}' for row in rows])


def text_told(calls, answers, rows):
    """The text of tellings with these rows, each a tuple of pairs."""
    heads = [' '.join(['calls', *calls]), ' '.join(['answers', *answers])]
    return '\n'.join(heads + [' '.join(['told', *itertools.chain(*row)]) for row in rows])


def rows_of(text):
    """The rows of a text of tellings, as (walk, answers)."""
    found = []
    for line in text.split('\n')[2:]:
        words = line.split(' ')[1:]
        found.append((tuple(words[::2]), tuple(words[1::2])))
    return found


def look_at_wrongs(device, text):
    return sum(a != b for walk, answers in rows_of(text) for a, b in zip(device.heard(walk), answers))


def look_at_votes(text):
    """What voted tells, by the votes of each node, one behind the other."""
    calls, answers = [tuple(line.split(' ')[1:]) for line in text.split('\n')[:2]]
    rows = rows_of(text)
    nodes = {walk[:many] for walk, _ in rows for many in range(len(walk) + 1)} | {()}
    if len(nodes) > 200:
        return 'many'
    known = {(): ()}
    for node in sorted(nodes, key=lambda node: (len(node), [calls.index(call) for call in node])):
        if node:
            heard = [told[len(node) - 1] for walk, told in rows
                     if walk[:len(node)] == node and told[:len(node) - 1] == known[node[:-1]]]
            best = [answer for answer in answers if all(
                heard.count(answer) > heard.count(other) for other in answers if other != answer)]
            if not best:
                return 'even', node
            known[node] = known[node[:-1]] + (best[0],)
    longest = [node for node in known if node and not any(other[:-1] == node for other in known if other)]
    lines = [' '.join(['test', *itertools.chain(*zip(node, known[node]))]) for node in longest]
    return 'tests', '\n'.join(text.split('\n')[:2] + lines)


def others_that_stand(device, text, lies):
    """All devices of one or two states that are not alike with the device and have at most so many wrongs."""
    return [other for other in all_to(device.calls, device.answers, 2)
            if look_at_wrongs(other, text) <= lies and first_parting(device, other) is not None]


def right_stands(device, text, lies, standing, value):
    """standing is how many others there are that stand, too."""
    own = look_at_wrongs(device, text)
    if type(value) is not tuple or not value:
        return False
    if own > lies:
        return same(value[0], 'wrong') and len(value) == 2 and is_whole(value[1], own, own)
    if not standing:
        return same(value, ('stands',))
    if not same(value[0], 'falls') or len(value) != 2 or bad_device(value[1]) is not None:
        return False
    other = Plain(value[1])
    if (other.calls, other.answers) != (device.calls, device.answers) or len(other.states) > 2:
        return False
    return look_at_wrongs(other, text) <= lies and first_parting(device, other) is not None


def some_tellings(seed, many, words=('a', 'b')):
    """Devices and texts of tellings: as they answer, each row one to three times, with some answers changed."""
    rnd = random.Random(seed)
    for turn in range(many):
        calls = rnd.sample(words, rnd.randint(1, len(words)))
        answers = rnd.sample(['x', 'y', 'z'], 2 if turn % 4 else 3)
        device = Device(random_text(rnd, calls, answers, rnd.randint(1, 2 if turn % 5 else 4)))
        rows = []
        for walk in random_walks(rnd, calls, rnd.choice((0, 1, 3, 8, 12)), 5):
            rows += [tuple(zip(walk, device.heard(walk)))] * rnd.choice((1, 1, 2, 3))
        rnd.shuffle(rows)
        for _ in range(rnd.choice((0, 0, 1, 2, 5))):
            if rows:
                at = rnd.randrange(len(rows))
                step = rnd.randrange(len(rows[at]))
                rows[at] = rows[at][:step] + ((rows[at][step][0], rnd.choice(answers)),) + rows[at][step + 1:]
        yield device, text_told(calls, answers, rows)


class TestTellings(Raising, unittest.TestCase):
    def test_what_is_no_string(self):
        for value in any_values():
            if not isinstance(value, str):
                self.assert_tells(BadTellings, 0, Tellings, value)

    def test_lines(self):
        for text, number in (('', 1), ('calls a b', 2), ('calls a b\n', 2), (HEADS + '\n', 3), ('answers x y\ncalls a', 1),
                             ('calls a b c d\nanswers x y', 1), ('calls a a\nanswers x y', 1), ('calls a\nanswers x', 2),
                             ('calls a\nanswers w x y z', 2), (' ' + HEADS, 1), (HEADS + ' ', 2), (HEADS + '\nmarks p', 3)):
            self.assert_tells(BadTellings, number, Tellings, text)
        for bad in ('told', 'told ', 'told a', 'told a x b', 'told a x ', 'told  a x', ' told a x', 'tolds a x', 'a x',
                    'told x a', 'told a z', 'told z x', 'test a x', 'Told a x', 'told a x x y', ''):
            self.assert_tells(BadTellings, 3, Tellings, HEADS + '\n' + bad)
            self.assert_tells(BadTellings, 4, Tellings, lines_of('a x') + '\n' + bad + '\ntold')

    def test_sixty_rows_of_twelve_pairs(self):
        self.assertEqual(len(Tellings(lines_of(*['a x'] * 60))), 60)
        self.assert_tells(BadTellings, 63, Tellings, lines_of(*['a x'] * 61))
        self.assert_tells(BadTellings, 63, Tellings, lines_of(*['a x'] * 60) + '\n')
        self.assertEqual(len(Tellings(lines_of(' '.join(['a x'] * 12))).rows[0]), 12)
        self.assert_tells(BadTellings, 3, Tellings, lines_of(' '.join(['a x'] * 13)))

    def test_texts_with_any_change(self):
        rnd = random.Random(1)
        counted = {}
        for _, text in some_tellings(2, 500):
            signs = list(text)
            for _ in range(rnd.randint(0, 2)):
                at = rnd.randrange(len(signs))
                signs[at:at + rnd.randint(0, 2)] = rnd.choice(['', ' ', '\n', 'a', 'x', 'y', '1', 'told', 'A'])
            text = ''.join(signs)
            number = bad_tests(text, 'told')
            if number is None:
                self.assertEqual(Tellings(text).text, text)
            else:
                self.assert_tells(BadTellings, number, Tellings, text)
            counted[number is None] = counted.get(number is None, 0) + 1
        self.assertGreater(min(counted.values()), 100)
        for text in variants(SAID.text, ()):
            if type(text) is str and bad_tests(text, 'told') is not None:
                self.assert_tells(BadTellings, bad_tests(text, 'told'), Tellings, text)

    def test_what_they_have(self):
        self.assertEqual((SAID.calls, SAID.answers, len(SAID)), (('a', 'b'), ('x', 'y'), 4))
        self.assertEqual(SAID.text, lines_of('a x a y', 'a x a x', 'a x a y', 'b y'))
        self.assertTrue(same(SAID.rows, ((('a', 'x'), ('a', 'y')), (('a', 'x'), ('a', 'x')), (('a', 'x'), ('a', 'y')),
                                         (('b', 'y'),))))
        self.assertTrue(same((NONE.rows, len(NONE)), ((), 0)))
        odd = Tellings('calls told calls\nanswers told answers\ntold told told calls answers\ntold calls told')
        self.assertEqual(odd.rows, ((('told', 'told'), ('calls', 'answers')), (('calls', 'told'),)))

    def test_any_number_of_nodes(self):
        walks = [''.join(walk) for walk in itertools.product('ab', repeat=6)]
        text = lines_of(*[' '.join(f'{call} x' for call in walk + 'aaaaaa') for walk in walks[:60]])
        self.assertEqual(len(Tellings(text)), 60)

    def test_equal(self):
        self.assertTrue(SAID == Tellings(SAID.text))
        self.assertFalse(SAID != Tellings(SAID.text))
        for other in any_values() + [NONE, SAID.text, SAID.rows, Tellings(lines_of('b y')), Tests(HEADS), FEW]:
            self.assertFalse(SAID == other)
            self.assertTrue(SAID != other)
        self.assertFalse(NONE == Tests(HEADS))

    def test_other_operators(self):
        for call in (lambda: SAID < SAID, lambda: SAID + SAID, lambda: SAID + 1, lambda: 'a' in SAID, lambda: SAID[0]):
            self.assertRaises(TypeError, call)


class TestWrongs(Raising, unittest.TestCase):
    def test_other_calls(self):
        for heads in OTHER_HEADS:
            tellings = Tellings(heads)
            self.assert_tells(OtherCalls, tellings, wrongs, LAMP, tellings)
            self.assert_tells(OtherCalls, tellings, nearest, (LAMP, LAMP), tellings)
            for lies in (0, 10, None):
                self.assert_tells(OtherCalls, tellings, stands, LAMP, tellings, lies)
                self.assert_tells(OtherCalls, tellings, shows_stands, LAMP, tellings, lies, ('stands',))

    def test_bad_devices(self):
        for value in bad_devices():
            for tellings in (SAID, Tellings(OTHER_HEADS[0])):
                self.assert_tells(BadDevices, value, nearest, value, tellings)

    def test_by_a_look(self):
        rnd = random.Random(3)
        counted = set()
        for device, text in some_tellings(4, 200, ('a', 'b', 'c')):
            tellings = Tellings(text)
            many = wrongs(device, tellings)
            self.assertTrue(same(many, look_at_wrongs(Plain(device.text), text)))
            others = [Device(random_text(rnd, device.calls, device.answers, rnd.randint(1, 4)))
                      for _ in range(rnd.randint(1, 3))]
            devices = rnd.sample([device, *others], len(others) + 1)
            found = [look_at_wrongs(Plain(one.text), text) for one in devices]
            expected = min((many, number) for number, many in enumerate(found))[::-1]
            self.assertTrue(same(nearest(tuple(devices), tellings), expected))
            counted.add(expected)
        self.assertTrue({(0, 0), (1, 0), (0, 1), (1, 1), (2, 0)} <= counted, counted)

    def test_each_row_from_the_first_state_on(self):
        self.assertEqual(wrongs(LAMP, Tellings(lines_of('a y a x'))), 2)
        self.assertEqual(wrongs(LAMP, Tellings(lines_of('a y a y', 'a x a x', 'b x'))), 3)
        self.assertEqual(wrongs(LAMP, Tellings(lines_of(*['a y'] * 60))), 60)
        self.assertEqual(wrongs(LAMP, NONE), 0)

    def test_the_first_of_the_nearest(self):
        self.assertEqual(nearest((LAMP, LAMP, LAMP), SAID), (0, 1))
        self.assertEqual(nearest((LAMP.begun('q'), THREE, LAMP, LAMP), SAID), (1, 1))
        self.assertEqual(nearest((RING, LAMP), NONE), (0, 0))

    def test_names_of_arguments(self):
        self.assertEqual(wrongs(device=LAMP, tellings=SAID), 1)
        self.assertEqual(nearest(devices=(RING, LAMP), tellings=SAID), (1, 1))
        self.assertEqual(voted(tellings=SAID), voted(SAID))
        self.assertEqual(stands(device=LAMP, tellings=SAID, lies=0), ('wrong', 1))
        self.assertIs(shows_stands(device=LAMP, tellings=SAID, lies=0, value=('wrong', 1)), True)


class TestVoted(Raising, unittest.TestCase):
    def test_by_a_look(self):
        counted = {'tests': 0, 'even': 0}
        for turn, (_, text) in enumerate(some_tellings(5, 700, ('a', 'b', 'c'))):
            told = voted(Tellings(text))
            self.assertTrue(same(told, look_at_votes(text)), (text, told))
            counted[told[0]] += 1
            if told[0] == 'tests':
                Tests(told[1])
        self.assertGreater(min(counted.values()), 50)

    def test_no_rows(self):
        self.assertEqual(voted(NONE), ('tests', HEADS))

    def test_even_votes(self):
        self.assertEqual(voted(Tellings(lines_of('a x', 'a y'))), ('even', ('a',)))
        self.assertEqual(voted(Tellings(lines_of('b x', 'b y', 'a x', 'a y'))), ('even', ('a',)))
        self.assertEqual(voted(Tellings(lines_of('b x', 'b y', 'a x a x', 'a x a y'))), ('even', ('b',)))
        self.assertEqual(voted(Tellings(lines_of('a x', 'a y', 'a x'))), ('tests', HEADS + '\ntest a x'))
        three = 'calls a\nanswers x y z'
        self.assertEqual(voted(Tellings(three + '\ntold a x\ntold a y\ntold a z')), ('even', ('a',)))
        # The one that most told, also if it is less than half.
        self.assertEqual(voted(Tellings(three + '\ntold a x\ntold a y\ntold a z\ntold a z')), ('tests', three + '\ntest a z'))
        self.assertEqual(voted(Tellings(three + '\ntold a x\ntold a z\ntold a z\ntold a x')), ('even', ('a',)))

    def test_calls_in_another_sequence(self):
        text = 'calls b a\nanswers y x\ntold a x\ntold a y\ntold b x\ntold b y'
        self.assertEqual(voted(Tellings(text)), ('even', ('b',)))

    def test_beginnings_of_other_rows(self):
        # The short rows vote for their node, and are no tests by themselves.
        self.assertEqual(voted(Tellings(lines_of('a y b x', 'a x', 'a x', 'a x b y'))), ('tests', HEADS + '\ntest a x b y'))
        self.assertEqual(voted(Tellings(lines_of('a y', 'a x a y', 'a y a x'))), ('tests', HEADS + '\ntest a y a x'))
        # Rows that told another answer ahead do not vote behind it.
        self.assertEqual(voted(Tellings(lines_of('a y b x', 'a y b x', 'a x b y', 'a x', 'a x'))),
                         ('tests', HEADS + '\ntest a x b y'))

    def test_nobody_may_vote(self):
        self.assertEqual(voted(Tellings(lines_of('a y b x', 'a x', 'a x'))), ('even', ('a', 'b')))
        self.assertEqual(voted(Tellings(lines_of('a y b x b x', 'a x', 'a x', 'b x b x'))), ('even', ('a', 'b')))

    def test_walks_in_sequence_once(self):
        told = voted(Tellings(lines_of('b x b y', 'a x', 'b x b y', 'b x a x', 'a x')))
        self.assertEqual(told, ('tests', HEADS + '\ntest a x\ntest b x a x\ntest b x b y'))

    def test_many(self):
        rows = [' '.join(f'{call} x' for call in walk) for walk in itertools.product('ab', repeat=6)]
        rows += [' '.join(['a x'] * 6 + ['a x'] * more) for more in range(1, 7)]
        for many in range(2, 60):
            for more in (rows[many:many + 1], ['a x a x', 'a x'], ['b y'] * 2):
                text = lines_of(*(rows[:many] + more)[:60])
                expected = look_at_votes(text)
                if expected == 'many':
                    self.assert_tells(Many, 200, voted, Tellings(text))
                else:
                    self.assertTrue(same(voted(Tellings(text)), expected))

    def test_200_nodes(self):
        # Seventeen walks of twelve calls, each with eleven nodes of its own or twelve.
        walks = [''.join(walk) for walk in itertools.product('ab', repeat=4)]
        rows = [' '.join(f'{call} x' for call in walk + 'aaaaaaaa') for walk in walks]
        nodes = {tuple(walk[:many]) for walk in (row.split(' ')[::2] for row in rows) for many in range(len(walk) + 1)}
        spare = 200 - len(nodes)
        self.assertGreater(spare, 0)
        one = ['a'] * 4 + ['b'] * 8
        two = ['b'] * 12
        rest = []
        for walk in (one, two, ['a', 'b'] * 6, ['b', 'a'] * 6, list('aabb' * 3), list('bbaa' * 3)):
            while spare > 0 and tuple(walk) not in nodes:
                new = next(many for many in range(1, 13) if tuple(walk[:many]) not in nodes)
                nodes.add(tuple(walk[:new]))
                rest.append(' '.join(f'{call} x' for call in walk[:new]))
                spare -= 1
        self.assertEqual(len(nodes), 200)
        self.assertEqual(voted(Tellings(lines_of(*rows, *rest[-40:])))[0], 'tests')
        full = lines_of(*rows, *rest)
        self.assertEqual(len(Tests(voted(Tellings(full))[1]).nodes), 200)
        more = next(walk for walk in itertools.product('ab', repeat=5) if walk not in nodes)
        one_more = full + '\ntold ' + ' '.join(f'{call} x' for call in more)
        self.assert_tells(Many, 200, voted, Tellings(one_more))
        # Many is due also where votes are even.
        self.assert_tells(Many, 200, voted, Tellings(one_more + '\ntold b y' * (60 - len(rows) - len(rest) - 1)))

    def test_votes_are_right_by_enough_rows(self):
        """Where each walk was told 2 * k + 1 times, and at most k answers in all are wrong."""
        rnd = random.Random(6)
        for _ in range(150):
            calls, answers = ['a', 'b'][:rnd.randint(1, 2)], ['x', 'y', 'z'][:rnd.randint(2, 3)]
            device = Device(random_text(rnd, calls, answers, rnd.randint(1, 4)))
            k = rnd.randint(0, 3)
            walks = random_walks(rnd, calls, rnd.randint(1, 60 // (2 * k + 1) // 2), 6)
            rows = [list(zip(walk, device.heard(walk))) for walk in walks for _ in range(2 * k + 1)]
            for _ in range(k):
                row = rnd.choice(rows)
                at = rnd.randrange(len(row))
                row[at] = (row[at][0], rnd.choice(answers))
            rnd.shuffle(rows)
            word, text = voted(Tellings(text_told(calls, answers, rows)))
            self.assertEqual(word, 'tests')
            self.assertTrue(Said(text).agrees(Plain(device.text)))


class TestStands(Raising, unittest.TestCase):
    def test_wrong_numbers(self):
        for value in any_values() + [-1, 10, (), '0', (0,), False, True]:
            for device in (LAMP, THREE, RING):
                self.assert_tells(BadNumber, value, stands, device, SAID, value)
                self.assert_tells(BadNumber, value, shows_stands, device, SAID, value, ('wrong', 1))

    def test_by_all_devices_of_one_and_two_states(self):
        counted = {'stands': 0, 'wrong': 0, 'falls': 0}
        for turn, (device, text) in enumerate(some_tellings(7, 90)):
            plain = Plain(device.text)
            if len(device.calls) == 2 and len(device.answers) == 3 and turn % 3:
                continue
            for lies in (0, 1, 2, 9):
                standing = len(others_that_stand(plain, text, lies))
                told = stands(device, Tellings(text), lies)
                self.assertTrue(right_stands(plain, text, lies, standing, told), (device.text, text, lies, told))
                self.assertIs(shows_stands(device, Tellings(text), lies, told), True)
                counted[told[0]] += 1
        self.assertGreater(min(counted.values()), 5, counted)

    def test_tellings_that_stand(self):
        """Each walk of a suite is told so often that so many lies do not matter; one more does."""
        rnd = random.Random(8)
        done = 0
        for turn in range(60):
            calls = ['a', 'b'][:rnd.randint(1, 2)]
            answers = ['x', 'y', 'z'][:2 if len(calls) == 2 else rnd.randint(2, 3)]
            device = Device(random_text(rnd, calls, answers, rnd.randint(1, 2)))
            plain = Plain(device.text)
            for lies in range(4):
                walks = suite(device, 2 - len(least(device))).walks
                rows = [tuple(zip(walk, device.heard(walk))) for walk in walks for _ in range(lies + 1)]
                if len(rows) > 60:
                    continue
                text = text_told(calls, answers, rows)
                self.assertEqual(stands(device, Tellings(text), lies), ('stands',))
                self.assertIs(shows_stands(device, Tellings(text), lies, ('stands',)), True)
                for more in (lies + 1, 9):
                    told = stands(device, Tellings(text), more)
                    standing = len(others_that_stand(plain, text, more))
                    self.assertTrue(right_stands(plain, text, more, standing, told))
                    done += told[0] == 'falls'
        self.assertGreater(done, 20)

    def test_a_row_by_which_no_telling_goes(self):
        rnd = random.Random(15)
        counted = {}
        for _ in range(150):
            device = Device(random_text(rnd, ['a', 'b'], ['x', 'y'], 2))
            state, call = rnd.choice(device.states), rnd.choice('ab')
            walks = [walk for walk in walks_to('ab', 4) if walk and not any(
                (device.behind(walk[:at]), walk[at]) == (state, call) for at in range(len(walk)))]
            text = text_told('ab', 'xy', [tuple(zip(walk, device.heard(walk))) for walk in walks])
            told = stands(device, Tellings(text), 0)
            standing = len(others_that_stand(Plain(device.text), text, 0))
            self.assertTrue(right_stands(Plain(device.text), text, 0, standing, told), (device.text, text, told))
            counted[standing > 0] = counted.get(standing > 0, 0) + 1
        self.assertGreater(counted[True], 50, counted)

    def test_three_calls(self):
        device = Device(
            'calls a b c\nanswers x y\nstates p q\nrow p a x q\nrow p b y p\nrow p c y p\nrow q a y p\nrow q b x q\n'
            'row q c x p')
        rows = [tuple(zip(walk, device.heard(walk))) for walk in itertools.product('abc', repeat=3)]
        text = text_told(device.calls, device.answers, rows + rows)
        words = set()
        for lies in (0, 1, 5, 7, 9):
            standing = others_that_stand(Plain(device.text), text, lies)
            told = stands(device, Tellings(text), lies)
            self.assertEqual(told[0], 'falls' if standing else 'stands')
            self.assertTrue(right_stands(Plain(device.text), text, lies, len(standing), told))
            words.add(told[0])
        self.assertEqual(words, {'stands', 'falls'})

    def test_no_rows(self):
        for device in (LAMP, STEADY, THREE, RING):
            for lies in (0, 9):
                told = stands(device, NONE, lies)
                self.assertEqual(told[0], 'falls')
                self.assertTrue(right_stands(Plain(device.text), HEADS, lies, 1, told))
                self.assertIs(shows_stands(device, NONE, lies, told), True)
                self.assertIs(shows_stands(device, NONE, lies, ('stands',)), False)

    def test_lies_0_and_9(self):
        tellings = asked(CALM, tuple(('a',) * 12 for _ in range(5))).text.replace('test', 'told')
        self.assertEqual(stands(CALM, Tellings(tellings), 0), ('stands',))
        self.assertEqual(stands(CALM, Tellings(tellings.replace('x a', 'y a', 9)), 9)[0], 'stands')
        self.assertEqual(stands(CALM, Tellings(tellings.replace('x a', 'y a', 10)), 9), ('wrong', 10))
        self.assertEqual(stands(CALM, Tellings(tellings.replace('x a', 'y a', 10)), 0), ('wrong', 10))

    def test_which_states_fall(self):
        # Only a device of two states has so few wrongs.
        turning = Device('calls a\nanswers x y\nstates p q\nrow p a x q\nrow q a y p')
        text = 'calls a\nanswers x y\ntold a x a y a x a y a x a y a x a y a x a y'
        told = stands(CALM, Tellings(text), 5)
        self.assertEqual(told[0], 'falls')
        self.assertIs(shows_stands(CALM, Tellings(text), 5, ('falls', turning.text)), True)
        self.assertIs(shows_stands(CALM, Tellings(text), 5, ('falls', CALM.text)), False)
        # A device of one state is enough.
        self.assertIs(shows_stands(turning, Tellings(text), 5, ('falls', CALM.text)), True)
        # Three states are not looked at, but written with two states in its line a device may have one that is not come to.
        three = Device('calls a\nanswers x y\nstates p q r\nrow p a x q\nrow q a y r\nrow r a y p')
        self.assertEqual(wrongs(three, Tellings(text)), 5)
        self.assertIs(shows_stands(turning, Tellings(text), 5, ('falls', three.text)), False)
        spare = CALM.text.replace('states s', 'states s t') + '\nrow t a y t'
        self.assertIs(shows_stands(turning, Tellings(text), 5, ('falls', spare)), True)
        self.assertIs(shows_stands(turning, Tellings(text), 4, ('falls', spare)), False)

    def test_a_device_of_more_states(self):
        text = lines_of('a x a x', 'b x')
        self.assertEqual(stands(RING, Tellings(text), 0)[0], 'falls')
        proved = asked(RING, tuple(itertools.product('ab', repeat=4))).text.replace('test', 'told')
        self.assertEqual(stands(RING, Tellings(proved), 0), ('stands',))
        # Three states that two are alike with: the others are those that are not.
        proved = ENOUGH.text.replace('test', 'told')
        self.assertEqual(stands(THREE, Tellings(proved), 0), ('stands',))
        self.assertIs(shows_stands(THREE, Tellings(proved), 1, ('falls', LAMP.text)), False)

    def test_any_values(self):
        proved = Tellings(ENOUGH.text.replace('test', 'told'))
        for tellings, lies in ((SAID, 0), (SAID, 1), (proved, 0), (NONE, 9)):
            told = stands(LAMP, tellings, lies)
            for value in any_values() + [0, 1, (), 'stands', ('stands', ()), ('wrong',), ('falls',), ('wrong', 1), ('stands',)]:
                self.assertIs(shows_stands(LAMP, tellings, lies, value), same(value, told))
                self.assertIs(shows_stands(LAMP, tellings, lies, told + (value,)), False)
                for at in range(len(told)):
                    changed = told[:at] + (value,) + told[at + 1:]
                    self.assertIs(shows_stands(LAMP, tellings, lies, changed), same(changed, told))

    def test_what_is_right_but_for_one_part(self):
        counted = {True: 0, False: 0}
        for turn, (device, text) in enumerate([(LAMP, SAID.text), *some_tellings(9, 60)]):
            if len(device.answers) == 3 and len(device.calls) == 2:
                continue
            for lies in (0, 1, 3):
                standing = len(others_that_stand(Plain(device.text), text, lies))
                told = stands(device, Tellings(text), lies)
                for value in some_variants(told, 60, turn):
                    right = right_stands(Plain(device.text), text, lies, standing, value)
                    self.assertIs(shows_stands(device, Tellings(text), lies, value), right, (device.text, text, lies, value))
                    counted[right] += 1
        self.assertGreater(counted[True], 50)
        self.assertGreater(counted[False], 2000)


class TestNames(unittest.TestCase):
    NAMES = {'calls': {'a': 'told', 'b': 'a'}, 'answers': {'x': 'even', 'y': 'b'},
             'states': {'p': 'z', 'q': 'a', 'r': 's1', 's': 's0', 't': 't', 'u': 'u', 'v': 'falls', 'w': 'w'}}

    def test_other_names(self):
        calls, answers = self.NAMES['calls'], self.NAMES['answers']
        for _, text in [(0, SAID.text), *some_tellings(10, 60)]:
            if not text.startswith('calls a b\nanswers x y\n'):
                continue
            rows = [tuple((calls[call], answers[answer]) for call, answer in zip(*row)) for row in rows_of(text)]
            other = Tellings(text_told(('told', 'a'), ('even', 'b'), rows))
            told, found = voted(Tellings(text)), voted(other)
            self.assertEqual(told[0], found[0])
            if told[0] == 'even':
                self.assertEqual(found[1], tuple(calls[call] for call in told[1]))
            else:
                self.assertEqual(found[1], renamed(told[1], self.NAMES))
            for device in (LAMP, RING, STEADY, THREE):
                turned = Device(renamed(device.text, self.NAMES))
                self.assertEqual(wrongs(turned, other), wrongs(device, Tellings(text)))
                for lies in (0, 2):
                    word = stands(device, Tellings(text), lies)
                    self.assertEqual(word[0], stands(turned, other, lies)[0])
                    if word[0] == 'falls':
                        self.assertIs(shows_stands(turned, other, lies, ('falls', renamed_states(word[1]))), True)

    def test_nothing_is_changed(self):
        device, tellings, devices = Device(LAMP.text), Tellings(SAID.text), (Device(RING.text), Device(LAMP.text))
        for _ in range(2):
            self.assertEqual(wrongs(device, tellings), wrongs(LAMP, SAID))
            self.assertEqual(nearest(devices, tellings), (1, 1))
            self.assertEqual(voted(tellings), voted(SAID))
            self.assertEqual(stands(device, tellings, 1), stands(LAMP, SAID, 1))
            self.assertEqual((device, tellings, devices), (LAMP, SAID, (RING, LAMP)))
            self.assertTrue(same(tellings.rows, SAID.rows))


def renamed_states(text):
    """The text of a device with the states s0 and s1, calls and answers called otherwise."""
    names = dict(TestNames.NAMES, states={'s0': 'q9', 's1': 'zero'})
    return renamed(text, names)


if __name__ == '__main__':
    unittest.main()
