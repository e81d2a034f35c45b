"""Points 2, 3 and 16: telling, which, within and what shows them."""

import itertools
import random
import unittest

from looks import Plain, first_parting, is_whole, same
from raising import Raising
from toldboxes.devices import Device
from toldboxes.errors import BadDevices, NotLeast, OtherCalls
from toldboxes.telling import shows_telling, shows_which, shows_within, telling, which, within
from values import (
    FAR, LAMP, RING, STEADY, THREE, TURNING, any_values, bad_devices, least_devices, random_text, random_walks,
    renamed, some_variants,
)

OTHER = LAMP.turned('p', 'a', 'y', 'q').turned('p', 'b', 'x', 'p')
# The call a brings p and q to one state, the call b brings p and r to one.
LOST = Device('calls a b\nanswers x y\nstates p q r\nrow p a x q\nrow q a x q\nrow r a y p\nrow p b x p\nrow q b y r\n'
              'row r b x p')


def led(devices, held, call):
    """By the answers, in sequence, what is held behind this call; held is a list of (leaf, (number, state))."""
    found = {answer: [] for answer in devices[0].answers}
    for leaf, (number, state) in held:
        answer, goal = devices[number].rows[state, call]
        found[answer].append((leaf, (number, goal)))
    return [(answer, part) for answer, part in found.items() if part]


def is_torn(part):
    """Whether two standings that are heard alike are led to one."""
    return len({standing for _, standing in part}) < len(part)


def tree_depth(devices, held, tree):
    """How deep any value is, if it is a tree that is right for what is held; None if not."""
    if len(held) == 1:
        return 0 if same(tree, held[0][0]) else None
    if type(tree) is not tuple or len(tree) != 2 or type(tree[0]) is not str or tree[0] not in devices[0].calls:
        return None
    parts = led(devices, held, tree[0])
    if type(tree[1]) is not tuple or len(tree[1]) != len(parts) or any(is_torn(part) for _, part in parts):
        return None
    depths = []
    for (answer, part), branch in zip(parts, tree[1]):
        if type(branch) is not tuple or len(branch) != 2 or not same(branch[0], answer):
            return None
        depths.append(tree_depth(devices, part, branch[1]))
    return None if None in depths else 1 + max(depths)


def least_depths(devices, together):
    """The least depth of a tree for each lot of standings for which there is one; together: of one device."""
    if together:
        lots = [lot for many in range(1, 5) for lot in itertools.combinations(devices[0].states, many)]
        lots = [frozenset((0, state) for state in lot) for lot in lots]
    else:
        places = [[None, *[(number, state) for state in device.states]] for number, device in enumerate(devices)]
        lots = [frozenset(part for part in lot if part) for lot in itertools.product(*places)]
    depths = {lot: 0 for lot in lots if len(lot) == 1}
    for deep in itertools.count(1):
        more = {}
        for lot in lots:
            if len(lot) > 1 and lot not in depths:
                for call in devices[0].calls:
                    parts = [part for _, part in led(devices, [(None, one) for one in lot], call)]
                    if not any(is_torn(part) for part in parts):
                        if all(frozenset(one for _, one in part) in depths for part in parts):
                            more[lot] = deep
        if not more:
            return depths
        depths.update(more)


def right_never(devices, first, value):
    """Whether any value is lots by which nothing tells these first standings."""
    if type(value) is not tuple:
        return False
    for lot in value:
        if type(lot) is not tuple or len(lot) < 2:
            return False
        for one in lot:
            if type(one) is not tuple or len(one) != 2 or not is_whole(one[0], 0, len(devices) - 1):
                return False
            if type(one[1]) is not str or one[1] not in devices[one[0]].states:
                return False
        if list(lot) != sorted(set(lot)):
            return False
    if list(value) != sorted(set(value)) or first not in value:
        return False
    for lot in value:
        for call in devices[0].calls:
            parts = [part for _, part in led(devices, [(None, one) for one in lot], call)]
            goals = [{one for _, one in part} for part in parts]
            if not any(is_torn(part) for part in parts) and not any(set(other) <= goal for other in value for goal in goals):
                return False
    return True


def right_told(devices, held, together, value):
    if type(value) is not tuple or len(value) != 2:
        return False
    if same(value[0], 'never'):
        return right_never(devices, tuple(one for _, one in held), value[1])
    deep = least_depths(devices, together).get(frozenset(one for _, one in held))
    return same(value[0], 'tree') and deep is not None and tree_depth(devices, held, value[1]) == deep


def held_by(device):
    return [(state, (0, state)) for state in sorted(device.states)]


def held_of(devices):
    return [(number, (number, device.states[0])) for number, device in enumerate(devices)]


def any_tree(rnd, devices, held, deep):
    """Any right tree, at most so deep; None if chance finds none."""
    if len(held) == 1:
        return held[0][0]
    if deep == 0:
        return None
    call = rnd.choice(devices[0].calls)
    parts = led(devices, held, call)
    if any(is_torn(part) for _, part in parts):
        return None
    branches = tuple((answer, any_tree(rnd, devices, part, deep - 1)) for answer, part in parts)
    return None if any(tree is None for _, tree in branches) else (call, branches)


def some_devices(seed, many):
    """Two to four devices with the same calls and answers; some of them alike, or the same."""
    rnd = random.Random(seed)
    for turn in range(many):
        calls = rnd.sample(['a', 'b', 'c'], rnd.randint(1, 3))
        answers = rnd.sample(['x', 'y', 'z'], 2 if turn % 3 else 3)
        devices = [Device(random_text(rnd, calls, answers, rnd.randint(1, 4))) for _ in range(rnd.choice((2, 2, 3, 3, 4)))]
        if turn % 4 == 0:
            devices[-1] = devices[0]
        elif turn % 4 == 1:
            device = devices[0]
            state, call = rnd.choice(device.states), rnd.choice(calls)
            devices[-1] = device.turned(state, call, rnd.choice(answers), rnd.choice(device.states))
        yield tuple(devices)


class TestErrors(Raising, unittest.TestCase):
    def test_not_least(self):
        alike = Device('calls a\nanswers x y\nstates p q\nrow p a x q\nrow q a x p')
        for device in (THREE, THREE.begun('w'), FAR, FAR.begun('q'), alike):
            self.assert_tells(NotLeast, device, telling, device)
            for value in (None, ('tree', 'p'), ('never', ())):
                self.assert_tells(NotLeast, device, shows_telling, device, value)

    def test_bad_devices(self):
        for value in bad_devices():
            self.assert_tells(BadDevices, value, which, value)
            self.assert_tells(BadDevices, value, shows_which, value, None)
            self.assert_tells(BadDevices, value, shows_which, value, ('tree', 0))

    def test_other_calls(self):
        others = [FAR] + [Device(LAMP.text.replace(old, new)) for old, new in (
            ('calls a b', 'calls b a'), ('answers x y', 'answers y x'), ('answers x y', 'answers x y z'))]
        for value in any_values() + others + [0, 1, (), LAMP.text, (LAMP,)]:
            if value is not LAMP and value is not THREE:
                self.assert_tells(OtherCalls, value, within, LAMP, value)
                self.assert_tells(OtherCalls, value, shows_within, LAMP, value, ('within', 1))

    def test_names_of_arguments(self):
        self.assertIs(shows_telling(device=LAMP, value=telling(device=LAMP)), True)
        self.assertIs(shows_which(devices=(LAMP, RING), value=which(devices=(LAMP, RING))), True)
        self.assertIs(shows_within(one=LAMP, other=OTHER, value=within(one=LAMP, other=OTHER)), True)


class TestTelling(unittest.TestCase):
    def test_by_a_look(self):
        counted = {'tree': 0, 'never': 0}
        depths = set()
        for device in least_devices(11, 1200):
            plain = Plain(device.text)
            told = telling(device)
            held = held_by(plain)
            self.assertTrue(right_told([plain], held, True, told), (device.text, told))
            self.assertIs(shows_telling(device, told), True)
            deep = least_depths([plain], True).get(frozenset(one for _, one in held))
            self.assertEqual(told[0], 'never' if deep is None else 'tree')
            counted[told[0]] += 1
            depths.add(deep)
        self.assertGreater(min(counted.values()), 25, counted)
        self.assertTrue(depths >= {None, 0, 1, 2, 3}, depths)

    def test_one_state(self):
        self.assertEqual(telling(STEADY), ('tree', 's'))
        self.assertIs(shows_telling(STEADY, ('tree', 's')), True)
        for value in (('tree', ('a', (('x', 's'),))), ('never', ()), ('never', (((0, 's'),),)), ('tree', 'p'), ('tree', 0)):
            self.assertIs(shows_telling(STEADY, value), False)

    def test_nothing_tells(self):
        told = telling(LOST)
        self.assertEqual(told[0], 'never')
        self.assertIn(((0, 'p'), (0, 'q'), (0, 'r')), told[1])
        self.assertTrue(right_told([Plain(LOST.text)], held_by(LOST), True, told))

    def test_states_in_another_sequence_than_their_names(self):
        device = Device('calls a\nanswers y x\nstates q p\nrow q a y p\nrow p a x q')
        self.assertEqual(telling(device), ('tree', ('a', (('y', 'q'), ('x', 'p')))))
        self.assertIs(shows_telling(device, ('tree', ('a', (('x', 'p'), ('y', 'q'))))), False)
        never = Device('calls a b\nanswers x y\nstates q p\nrow q a x p\nrow p a y p\nrow q b x q\nrow p b x p')
        self.assertEqual(telling(never)[0], 'tree')

    def test_trees_that_are_deeper(self):
        rnd = random.Random(12)
        counted = {True: 0, False: 0}
        for device in least_devices(13, 150):
            plain = Plain(device.text)
            deep = least_depths([plain], True).get(frozenset((0, state) for state in plain.states))
            for _ in range(12 if deep else 0):
                tree = any_tree(rnd, [plain], held_by(plain), deep + 2)
                if tree is not None:
                    expected = tree_depth([plain], held_by(plain), tree) == deep
                    self.assertIs(shows_telling(device, ('tree', tree)), expected)
                    counted[expected] += 1
        self.assertGreater(min(counted.values()), 50)


class TestWhich(unittest.TestCase):
    def test_by_a_look(self):
        counted = {'tree': 0, 'never': 0}
        depths = set()
        for devices in some_devices(14, 220):
            plain = [Plain(device.text) for device in devices]
            told = which(devices)
            held = held_of(plain)
            self.assertTrue(right_told(plain, held, False, told), told)
            self.assertIs(shows_which(devices, told), True)
            deep = least_depths(plain, False).get(frozenset(one for _, one in held))
            self.assertEqual(told[0], 'never' if deep is None else 'tree')
            counted[told[0]] += 1
            depths.add(deep)
        self.assertGreater(min(counted.values()), 50)
        self.assertTrue(depths >= {1, 2, 3}, depths)

    def test_the_same_device_twice(self):
        for devices in ((LAMP, LAMP), (LAMP, LAMP.begun('q'), LAMP), (LAMP, THREE), (RING, LAMP, THREE, RING)):
            told = which(devices)
            self.assertEqual(told[0], 'never')
            self.assertTrue(right_told([Plain(device.text) for device in devices], held_of(devices), False, told))

    def test_two_are_told_by_a_walk_that_brings_the_others_together(self):
        heads = 'calls a b\nanswers x y\nstates '
        one = Device(heads + 'p q\nrow p a x q\nrow p b x q\nrow q a x q\nrow q b x q')
        two = Device(heads + 'p q\nrow p a y q\nrow p b x q\nrow q a x q\nrow q b x q')
        three = Device(heads + 'p q\nrow p a x q\nrow p b y q\nrow q a x q\nrow q b x q')
        for devices in itertools.permutations((one, two, three)):
            for pair in itertools.combinations(devices, 2):
                self.assertEqual(which(pair)[0], 'tree')
            told = which(devices)
            self.assertEqual(told[0], 'never')
            plain = [Plain(device.text) for device in devices]
            self.assertTrue(right_told(plain, held_of(plain), False, told))
            self.assertIs(shows_which(devices, told), True)

    def test_four_devices(self):
        rows = {'a': 'row p a {} p', 'b': 'row p b {} p'}
        devices = tuple(Device('calls a b\nanswers x y\nstates p\n' + '\n'.join([rows['a'].format(one), rows['b'].format(two)]))
                        for one in 'xy' for two in 'xy')
        tree = ('a', (('x', ('b', (('x', 0), ('y', 1)))), ('y', ('b', (('x', 2), ('y', 3))))))
        self.assertIs(shows_which(devices, ('tree', tree)), True)
        self.assertTrue(right_told([Plain(device.text) for device in devices], held_of(devices), False, which(devices)))
        mixed = ('a', (('x', ('b', (('x', False), ('y', True)))), ('y', ('b', (('x', 2), ('y', 3))))))
        self.assertIs(shows_which(devices, ('tree', mixed)), False)

    def test_trees_that_are_deeper(self):
        rnd = random.Random(15)
        counted = {True: 0, False: 0}
        for devices in some_devices(16, 100):
            plain = [Plain(device.text) for device in devices]
            deep = least_depths(plain, False).get(frozenset(one for _, one in held_of(plain)))
            for _ in range(12 if deep else 0):
                tree = any_tree(rnd, plain, held_of(plain), deep + 2)
                if tree is not None:
                    expected = tree_depth(plain, held_of(plain), tree) == deep
                    self.assertIs(shows_which(devices, ('tree', tree)), expected)
                    counted[expected] += 1
        self.assertGreater(min(counted.values()), 50)


class TestShowsTelling(unittest.TestCase):
    def test_any_values(self):
        for value in any_values() + [0, 1, (), 'tree', ('tree',), ('never',), ('never', ()), ('tree', 'p'), ('tree', 0)]:
            for call, given in ((shows_telling, LAMP), (shows_telling, LOST), (shows_telling, STEADY),
                                (shows_which, (LAMP, LAMP.begun('q'))), (shows_which, (LAMP, THREE))):
                told = (telling if call is shows_telling else which)(given)
                self.assertIs(call(given, value), False)
                self.assertIs(call(given, told + (value,)), False)
                self.assertIs(call(given, (value, told[1])), same(value, told[0]))
                self.assertIs(call(given, (told[0], value)), same(value, told[1]))

    def test_what_is_right_but_for_one_part(self):
        rnd = random.Random(17)
        counted = {True: 0, False: 0}
        lost = [device for device in least_devices(29, 600) if telling(device)[0] == 'never']
        self.assertGreater(len(lost), 10)
        for device in (LAMP, RING, LOST, TURNING, *lost, *least_devices(18, 40)):
            plain = Plain(device.text)
            for value in some_variants(telling(device), 200, rnd.random()):
                expected = right_told([plain], held_by(plain), True, value)
                self.assertIs(shows_telling(device, value), expected, (device.text, value))
                counted[expected] += 1
        for devices in ((LAMP, LAMP), (LAMP, LAMP.begun('q')), (LAMP, RING), *some_devices(19, 50)):
            plain = [Plain(device.text) for device in devices]
            for value in some_variants(which(devices), 100, rnd.random()):
                expected = right_told(plain, held_of(plain), False, value)
                self.assertIs(shows_which(devices, value), expected, ([device.text for device in devices], value))
                counted[expected] += 1
        self.assertGreater(counted[True], 50)
        self.assertGreater(counted[False], 5000)

    def test_trees_with_calls_that_bring_states_together(self):
        rnd = random.Random(30)
        counted = {True: 0, False: 0}
        for device in (LOST, *least_devices(31, 400)):
            plain = Plain(device.text)
            for call in device.calls:
                parts = led([plain], held_by(plain), call)
                if not any(is_torn(part) for _, part in parts):
                    continue
                told = telling(device)
                counted[told[0] == 'tree'] += 1
                leaves = tuple((answer, rnd.choice(part)[0]) for answer, part in parts)
                trees = tuple((answer, told[1]) for answer, part in parts)
                for tree in ((call, leaves), (call, trees), (call, tuple((answer, (call, leaves)) for answer, _ in parts))):
                    self.assertIs(shows_telling(device, ('tree', tree)), False)
        self.assertGreater(min(counted.values()), 10)

    def test_lots_that_others_made(self):
        rnd = random.Random(20)
        counted = {True: 0, False: 0}
        for devices in [(LAMP, LAMP), (LAMP, THREE), *some_devices(21, 80)]:
            plain = [Plain(device.text) for device in devices]
            told = which(devices)
            if told[0] == 'tree':
                continue
            first = tuple(one for _, one in held_of(plain))
            standings = [(number, state) for number, device in enumerate(plain) for state in device.states]
            for _ in range(20):
                lots = set(rnd.sample(told[1], rnd.randint(0, len(told[1])))) | {first}
                for _ in range(rnd.randint(0, 2)):
                    lots.add(tuple(sorted(rnd.sample(standings, rnd.randint(2, min(3, len(standings)))))))
                value = tuple(sorted(lots))
                expected = right_never(plain, first, value)
                self.assertIs(shows_which(devices, ('never', value)), expected, value)
                counted[expected] += 1
        self.assertGreater(min(counted.values()), 50)

    def test_lots_with_fewer_standings_and_with_two_of_one_device(self):
        devices = (LAMP, LAMP, LAMP.begun('q'))
        first = ((0, 'p'), (1, 'p'), (2, 'q'))
        lots = (((0, 'p'), (1, 'p')), first, ((0, 'q'), (1, 'q')))
        self.assertIs(shows_which(devices, ('never', lots)), True)
        self.assertIs(shows_which(devices, ('never', lots[:2])), False)
        self.assertIs(shows_which(devices, ('never', (lots[0], lots[2]))), False)
        self.assertIs(shows_which(devices, ('never', lots[::-1])), False)
        self.assertIs(shows_which(devices, ('never', lots[:1] + lots)), False)
        for strange in (((0, 'p'), (0, 'q')), ((0, 'q'), (2, 'p'))):
            self.assertIs(shows_which(devices, ('never', tuple(sorted(lots + (strange,))))), False)
        self.assertIs(shows_which(devices, ('never', tuple(sorted(lots + (((0, 'p'), (1, 'p'), (2, 'p')),))))), True)
        merged = (TURNING, TURNING.turned('q', 'a', 'x', 'r'))
        self.assertEqual(which(merged)[0], 'tree')


def look_at_within(one, other):
    """The least number such that all walks of so many calls are heard otherwise; None if there is none."""
    pairs = {(one.states[0], other.states[0])}
    for number in range(1, len(one.states) * len(other.states) + 2):
        pairs = {(one.rows[left, call][1], other.rows[right, call][1]) for left, right in pairs for call in one.calls
                 if one.rows[left, call][0] == other.rows[right, call][0]}
        if not pairs:
            return number
    return None


def right_within(one, other, value):
    if type(value) is not tuple or not value:
        return False
    if same(value[0], 'within'):
        number = look_at_within(one, other)
        return number is not None and same(value[1:], (number,))
    if not same(value[0], 'ring') or len(value) != 3:
        return False
    for walk, fewest in ((value[1], 0), (value[2], 1)):
        if type(walk) is not tuple or not fewest <= len(walk) <= 24:
            return False
        if not all(type(call) is str and call in one.calls for call in walk):
            return False
    if one.heard(value[1] + value[2]) != other.heard(value[1] + value[2]):
        return False
    return all(device.go(value[1])[1] == device.go(value[1] + value[2])[1] for device in (one, other))


class TestWithin(unittest.TestCase):
    def pairs(self, seed, many):
        rnd = random.Random(seed)
        for turn in range(many):
            calls = rnd.sample(['a', 'b', 'c'], rnd.choice((1, 1, 2, 3)))
            answers = rnd.sample(['x', 'y', 'z'], 2 if turn % 3 else 3)
            yield [Device(random_text(rnd, calls, answers, rnd.randint(1, 4))) for _ in range(2)]

    def test_by_a_look(self):
        numbers = {}
        for one, other in self.pairs(22, 500):
            first, second = Plain(one.text), Plain(other.text)
            told = within(one, other)
            number = look_at_within(first, second)
            self.assertTrue(right_within(first, second, told), told)
            self.assertEqual(told[0], 'ring' if number is None else 'within')
            self.assertIs(shows_within(one, other, told), True)
            numbers[number] = numbers.get(number, 0) + 1
        for number in (None, 1, 2, 3, 4):
            self.assertGreater(numbers[number], 3, numbers)

    def test_as_many_calls_as_can_be(self):
        three = Device('calls a\nanswers x y\nstates p q r\nrow p a x q\nrow q a x r\nrow r a y p')
        long = Device('calls a\nanswers x y\nstates p q r s\nrow p a x q\nrow q a x r\nrow r a y s\nrow s a x p')
        self.assertEqual(within(three, long), ('within', 6))
        self.assertEqual(within(long, three), ('within', 6))
        for number in (5, 7, 0, '6', None, (6,)):
            self.assertIs(shows_within(three, long, ('within', number)), False)
        self.assertEqual(within(LAMP, OTHER), ('within', 1))
        self.assertIs(shows_within(LAMP, OTHER, ('within', True)), False)

    def test_heard_alike_for_ever(self):
        for one, other in ((LAMP, LAMP), (LAMP, THREE), (LAMP, LAMP.begun('q')), (STEADY, STEADY)):
            told = within(one, other)
            self.assertEqual(told[0], 'ring')
            self.assertTrue(right_within(Plain(one.text), Plain(other.text), told))
        # Only behind a call that both answer alike a round begins.
        one = Device('calls a b\nanswers x y\nstates p q\nrow p a x q\nrow p b x p\nrow q a x q\nrow q b x q')
        other = Device('calls a b\nanswers x y\nstates p q\nrow p a x q\nrow p b y p\nrow q a x q\nrow q b y q')
        told = within(one, other)
        self.assertTrue(right_within(Plain(one.text), Plain(other.text), told))
        for walk, turn in (((), ('a',)), (('a',), ()), (('b',), ('a',)), (('a',), ('b',)), ((), ('a', 'a'))):
            self.assertIs(shows_within(one, other, ('ring', walk, turn)), False)
        self.assertIs(shows_within(one, other, ('ring', ('a',), ('a',))), True)

    def test_no_number_where_something_is_heard_alike_for_ever(self):
        for value in (None, 0, 1, 16, 17, (), 'None'):
            self.assertIs(shows_within(LAMP, THREE, ('within', value)), False)

    def test_walks_of_24_calls(self):
        for walk, turn, right in ((24, 24, True), (0, 24, True), (24, 1, True), (25, 1, False), (0, 25, False), (0, 0, False)):
            value = ('ring', ('b',) * walk, ('b',) * turn)
            self.assertIs(shows_within(LAMP, LAMP.begun('q'), value), right)
        self.assertIs(shows_within(LAMP, LAMP, ('ring', ('a',) * 24, ('a',) * 23)), False)
        self.assertIs(shows_within(LAMP, LAMP, ('ring', ('a',) * 24, ('a',) * 24)), True)

    def test_any_values(self):
        for value in any_values() + [0, 1, (), 'ring', ('ring',), ('within',), ('ring', ()), ('within', ()), ('ring', (), ())]:
            for one, other in ((LAMP, OTHER), (LAMP, LAMP.begun('q'))):
                told = within(one, other)
                self.assertIs(shows_within(one, other, value), False)
                self.assertIs(shows_within(one, other, told + (value,)), False)
                for at in range(len(told)):
                    changed = told[:at] + (value,) + told[at + 1:]
                    expected = right_within(Plain(one.text), Plain(other.text), changed)
                    self.assertIs(shows_within(one, other, changed), expected)

    def test_what_is_right_but_for_one_part(self):
        rnd = random.Random(23)
        counted = {True: 0, False: 0}
        for one, other in [(LAMP, THREE), (LAMP, OTHER), *self.pairs(24, 60)]:
            first, second = Plain(one.text), Plain(other.text)
            for value in some_variants(within(one, other), 100, rnd.random()):
                expected = right_within(first, second, value)
                self.assertIs(shows_within(one, other, value), expected, (one.text, other.text, value))
                counted[expected] += 1
        self.assertGreater(counted[True], 20)
        self.assertGreater(counted[False], 2000)

    def test_rings_that_others_made(self):
        rnd = random.Random(25)
        counted = {True: 0, False: 0}
        for one, other in [(LAMP, THREE), (LAMP, LAMP.begun('q')), *self.pairs(26, 120)]:
            first, second = Plain(one.text), Plain(other.text)
            for walk, turn in zip(random_walks(rnd, one.calls, 10, 4), random_walks(rnd, one.calls, 10, 4)):
                for value in (('ring', walk, turn), ('ring', (), turn)):
                    expected = right_within(first, second, value)
                    self.assertIs(shows_within(one, other, value), expected)
                    counted[expected] += 1
        self.assertGreater(min(counted.values()), 30)


class TestNames(unittest.TestCase):
    NAMES = {'calls': {'a': 'q', 'b': 'calls'}, 'answers': {'x': 'never', 'y': 'a'},
             'states': {'p': 'z', 'q': 'a', 'r': 's1', 's': 's0', 't': 'c', 'u': 'u', 'v': 'tree', 'w': 'w'}}

    def test_other_names(self):
        for device in (LAMP, RING, STEADY, LOST, TURNING):
            other = Device(renamed(device.text, self.NAMES))
            self.assertEqual(telling(other)[0], telling(device)[0])
            self.assertIs(shows_telling(other, telling(other)), True)
        for devices in ((LAMP, LAMP), (LAMP, THREE, RING), (LAMP, RING), (RING, OTHER, LAMP)):
            others = tuple(Device(renamed(device.text, self.NAMES)) for device in devices)
            self.assertEqual(which(others)[0], which(devices)[0])
            self.assertIs(shows_which(others, which(others)), True)
            told = within(*devices[:2])
            again = within(*others[:2])
            self.assertEqual(again[0], told[0])
            self.assertIs(shows_within(*others[:2], again), True)

    def test_other_sequences_of_lines_and_states(self):
        for device in least_devices(27, 60):
            lines = device.text.split('\n')
            states = ' '.join(['states', device.states[0], *device.states[:0:-1]])
            other = Device('\n'.join(lines[:2] + [states] + lines[:2:-1]))
            self.assertIs(shows_telling(device, telling(other)), True)
            self.assertIs(shows_telling(other, telling(device)), True)

    def test_devices_are_told_just_if_they_are_apart(self):
        for devices in some_devices(28, 100):
            apart = first_parting(Plain(devices[0].text), Plain(devices[1].text)) is not None
            self.assertEqual(which(devices[:2])[0], 'tree' if apart else 'never')

    def test_nothing_is_changed(self):
        device, devices = Device(RING.text), (Device(LAMP.text), Device(RING.text))
        for _ in range(2):
            self.assertTrue(same((telling(device), which(devices)), (telling(RING), which((LAMP, RING)))))
            self.assertTrue(same(within(*devices), within(LAMP, RING)))
            self.assertEqual((device, devices), (RING, (LAMP, RING)))


if __name__ == '__main__':
    unittest.main()
