"""Points 2, 3 and 20: kept, shows_kept, always_kept, shows_always_kept."""

import itertools
import random
import unittest

from looks import (
    Guard, Plain, Said, agreeing, any_tests, gone_on, is_whole, right_cases, same, sortings, tears, walks_to,
)
from raising import Raising
from toldboxes.devices import Device
from toldboxes.errors import BadNumber, Long, OtherCalls
from toldboxes.keeping import always_kept, kept, shows_always_kept, shows_kept
from toldboxes.records import Tests, asked
from toldboxes.sortings import fits
from toldboxes.watches import Watch
from values import (
    CALM, ENOUGH, FEW, HALF, LAMP, ONE_MORE, OTHER_HEADS, RING, SIX_HUNDRED, STEADY, THREE, WATCH, any_values,
    random_text, random_walks, renamed, some_variants, watch_text,
)

NONE = Tests('calls a b\nanswers x y')
MARKS = {'calls': {'a': 'step', 'b': 'broken'}, 'answers': {'x': 'kept', 'y': 'a'},
         'marks': {'idle': 'zz', 'on': 'aa', 'first': 'm', 'calm': 'b', 'third': 'one', 'one': 'kept', 'broken': 'broken'},
         'states': {'p': 'z', 'q': 'a', 'r': 's1', 's': 's0', 't': 't', 'u': 'u', 'v': 'x', 'w': 'w'}}


def renamed_watch(text):
    kinds = ('marks', 'calls', 'answers', 'marks')
    lines = []
    for line in text.split('\n'):
        head, *words = line.split(' ')
        names = kinds if head == 'step' else (head,) * len(words)
        lines.append(' '.join([head] + [MARKS[kind][word] for kind, word in zip(names, words)]))
    return '\n'.join(lines)


def shortest_breaking(device, guard):
    """The length of the shortest walks behind which the watch is broken; None if there are none."""
    level = {(device.states[0], guard.marks[0])}
    for length in range(1, 18):
        behind = set()
        for state, mark in level:
            for call in device.calls:
                answer, goal = device.rows[state, call]
                behind.add((goal, guard.goals[mark, call, answer]))
        if any(mark == 'broken' for _, mark in behind):
            return length
        level |= behind
    return None


def right_kept(device, guard, value):
    if type(value) is not tuple or len(value) != 2:
        return False
    length = shortest_breaking(device, guard)
    if length is None:
        pairs = {(device.states[0], guard.marks[0])}
        for _ in range(16):
            for state, mark in list(pairs):
                for call in device.calls:
                    answer, goal = device.rows[state, call]
                    pairs.add((goal, guard.goals[mark, call, answer]))
        return same(value, ('kept', tuple(sorted(pairs))))
    if not same(value[0], 'broken') or type(value[1]) is not tuple or len(value[1]) != length:
        return False
    if not all(type(call) is str and call in device.calls for call in value[1]):
        return False
    return guard.go(zip(value[1], device.heard(value[1]))) == 'broken'


def rows_by(said, way):
    """The rows that the nodes of a sorting tell: (answer, class) by (class, call)."""
    place = dict(zip(said.nodes, way))
    return {(place[node[:-1]], node[-1]): (said.told[node], place[node]) for node in said.nodes if node}


def can_break(said, way, guard):
    """Whether some device whose states at the nodes are laid so breaks the watch; behind untold rows all may come."""
    rows = rows_by(said, way)
    found = [(0, guard.marks[0])]
    for place, mark in found:
        for call in said.calls:
            told = [rows[place, call]] if (place, call) in rows else [(answer, None) for answer in said.answers]
            for answer, goal in told:
                aim = guard.goals[mark, call, answer]
                if aim == 'broken':
                    return True
                if (goal, aim) not in found:
                    found.append((goal, aim))
    return False


def right_log(said, way, guard, log):
    """Whether any value is a log that goes by the rows of a sorting, as long as they are told, and breaks the watch."""
    if type(log) is not tuple or len(log) > 24:
        return False
    rows = rows_by(said, way)
    place = 0
    for step in log:
        if type(step) is not tuple or len(step) != 2 or not all(type(word) is str for word in step):
            return False
        if step[0] not in said.calls or step[1] not in said.answers:
            return False
        if place is not None:
            answer, place = rows.get((place, step[0]), (step[1], None))
            if answer != step[1]:
                return False
    return guard.go(log) == 'broken'


def is_closed(said, guard, place, pairs, pair):
    """Whether from a pair each call that is at risk is told, and leads to one of the pairs."""
    number, mark = pair
    for call in said.calls:
        if guard.at_risk(mark, call):
            nodes = [node for node in place if place[node] == number and node + (call,) in place]
            behind = [(place[node + (call,)], guard.goals[mark, call, said.told[node + (call,)]]) for node in nodes]
            if not any(goal in pairs for goal in behind):
                return False
    return True


def right_kept_end(said, guard, place, value):
    many = len(set(place.values()))
    if len(value) != 2 or not same(value[0], 'kept') or type(value[1]) is not tuple:
        return False
    for pair in value[1]:
        if type(pair) is not tuple or len(pair) != 2 or not is_whole(pair[0], 0, many - 1):
            return False
        if type(pair[1]) is not str or pair[1] not in guard.marks:
            return False
    if list(value[1]) != sorted(set(value[1])) or (0, guard.marks[0]) not in value[1]:
        return False
    return all(is_closed(said, guard, place, value[1], pair) for pair in value[1])


def right_always(said, guard, m, ways, breaking, value):
    """ways are all sortings, breaking those by which the watch can be broken."""
    if type(value) is not tuple or len(value) not in (2, 3):
        return False
    if same(value[0], 'none'):
        return len(value) == 2 and not ways and right_cases(said, m, value[1])
    if len(value) == 2:
        if not same(value[0], 'kept') or not ways or breaking:
            return False
        return right_cases(said, m, value[1], lambda place, end: right_kept_end(said, guard, place, end))
    if not same(value[0], 'broken') or not any(same(value[1], way) for way in ways):
        return False
    return right_log(said, value[1], guard, value[2])


def any_end(rnd, said, guard, place):
    """Any right end for a beginning, with few pairs or many; None if there is none, or chance finds none."""
    marks = [(number, mark) for number in sorted(set(place.values())) for mark in guard.marks]
    pairs = set(marks if rnd is None or rnd.random() < 0.7 else rnd.sample(marks, rnd.randint(1, len(marks))))
    while True:
        left = {pair for pair in pairs if is_closed(said, guard, place, pairs, pair)}
        if left == pairs:
            return ('kept', tuple(sorted(pairs))) if (0, guard.marks[0]) in pairs else None
        pairs = left


def any_paper(rnd, said, guard, m, place=None):
    """Any right cases by which the watch is kept: ends stand where they can, also where something is open or torn."""
    place = gone_on(said, {(): 0} if place is None else place)
    torn = tears(said, place)
    nodes = [node for node in said.nodes if node not in place and node[:-1] in place]
    end = any_end(rnd, said, guard, place) if rnd.random() < 0.5 or not nodes else None
    if end is None and not nodes and not torn:
        end = any_end(None, said, guard, place)
    if end is not None:
        return end
    if torn and (not nodes or rnd.random() < 0.5):
        return rnd.choice(torn)
    node = rnd.choice(nodes)
    goals = range(min(m, len(set(place.values())) + 1))
    return 'cases', node, tuple(any_paper(rnd, said, guard, m, {**place, node: goal}) for goal in goals)


def mended_watch(text, device):
    """The text of a watch in which those steps are left out by which the device breaks it."""
    while True:
        guard = Guard(text)
        found = [(device.states[0], guard.marks[0])]
        for state, mark in found:
            for call in device.calls:
                answer, goal = device.rows[state, call]
                aim = guard.goals[mark, call, answer]
                if aim == 'broken':
                    line = f'step {mark} {call} {answer} broken'
                    break
                if (goal, aim) not in found:
                    found.append((goal, aim))
            else:
                continue
            break
        else:
            return text
        text = '\n'.join(old for old in text.split('\n') if old != line)


def some_devices(seed, many):
    """Devices and watches, some of which they keep."""
    rnd = random.Random(seed)
    for turn in range(many):
        calls = rnd.sample(['a', 'b', 'c'], rnd.choice((1, 2, 2, 3)))
        answers = rnd.sample(['x', 'y', 'z'], 2 if turn % 4 else 3)
        device = Device(random_text(rnd, calls, answers, rnd.randint(1, 4)))
        text = watch_text(rnd, calls, answers, rnd.randint(1, 4), rnd.choice((0, 2, 5, 9, 99)), rnd.choice((0.1, 0.2, 0.4)))
        if turn % 2:
            text = mended_watch(text, Plain(device.text))
        yield device, text


def some_tests(seed, many):
    """Tests and watches: many walks or few, told by devices of one state or two, or by nobody."""
    rnd = random.Random(seed)
    for turn in range(many):
        calls = rnd.sample(['a', 'b', 'c'], rnd.choice((1, 1, 2, 2, 2, 3)))
        answers = rnd.sample(['x', 'y', 'z'], 2 if turn % 5 else 3)
        device = Device(random_text(rnd, calls, answers, rnd.randint(1, 2)))
        text = watch_text(rnd, calls, answers, rnd.randint(1, 3), rnd.choice((1, 2, 4, 9)), rnd.choice((0.2, 0.4)))
        if turn % 3:
            text = mended_watch(text, Plain(device.text))
        length = {1: 5, 2: 3, 3: 2}[len(calls)]
        walks = tuple(itertools.product(calls, repeat=rnd.randint(1, length)))
        if turn % 4 == 0:
            walks = random_walks(rnd, calls, rnd.randint(0, 4), 4)
        if turn % 7 == 0:
            yield Tests(any_tests(rnd, calls, answers, rnd.randint(1, 4), 4)), text
        else:
            yield asked(device, walks), text


def numbers_for(tests):
    return (1, 2, 3) if len(tests.calls) == 3 else (1, 2, 3, 4)


class TestErrors(Raising, unittest.TestCase):
    def test_other_calls(self):
        for heads in OTHER_HEADS:
            watch = Watch(heads + '\nmarks i')
            for device in (LAMP, RING, STEADY):
                self.assert_tells(OtherCalls, watch, kept, device, watch)
                self.assert_tells(OtherCalls, watch, shows_kept, device, watch, ('kept', ()))
            for tests in (FEW, NONE):
                for m in (0, 2, None, 99):
                    self.assert_tells(OtherCalls, watch, always_kept, tests, watch, m)
                    self.assert_tells(OtherCalls, watch, shows_always_kept, tests, watch, m, ('kept', ()))

    def test_wrong_numbers(self):
        for value in any_values() + [0, 5, (), '2', (2,), True]:
            for tests in (FEW, NONE):
                self.assert_tells(BadNumber, value, always_kept, tests, WATCH, value)
                self.assert_tells(BadNumber, value, shows_always_kept, tests, WATCH, value, ('none', ()))
        three = Tests('calls a b c\nanswers x y')
        watch = Watch('calls a b c\nanswers x y\nmarks i')
        self.assert_tells(BadNumber, 4, always_kept, three, watch, 4)
        self.assertEqual(always_kept(three, watch, 3), ('kept', ('kept', ((0, 'i'),))))

    def test_600_and_601_sortings(self):
        for tests, m in SIX_HUNDRED + ONE_MORE:
            heads = tests.text.split('\n')[:2]
            calm = Watch('\n'.join(heads + ['marks i']))
            if (tests, m) in SIX_HUNDRED:
                told = always_kept(tests, calm, m)
                self.assertEqual(told, ('kept', told[1]))
                self.assertIs(shows_always_kept(tests, calm, m, told), True)
                self.assertIs(shows_always_kept(tests, calm, m, ('kept', ('kept', ((0, 'i'),)))), True)
            else:
                self.assert_tells(Long, 600, always_kept, tests, calm, m)
                for value in (('kept', ('kept', ((0, 'i'),))), ('none', ()), None, ('broken', (), ())):
                    self.assert_tells(Long, 600, shows_always_kept, tests, calm, m, value)
            # Where it is broken, it is not too long.
            strict = Watch('\n'.join(heads + ['marks i', 'step i a y j'.replace('j', 'broken')]))
            told = always_kept(tests, strict, m)
            self.assertEqual(told[0], 'broken')
            self.assertIs(shows_always_kept(tests, strict, m, told), True)
            self.assertEqual(always_kept(tests, calm, 1)[0], fits(tests, 1)[0].replace('device', 'kept'))

    def test_names_of_arguments(self):
        self.assertIs(shows_kept(device=LAMP, watch=WATCH, value=kept(device=LAMP, watch=WATCH)), True)
        told = always_kept(tests=ENOUGH, watch=WATCH, m=2)
        self.assertIs(shows_always_kept(tests=ENOUGH, watch=WATCH, m=2, value=told), True)


class TestKept(unittest.TestCase):
    def test_by_a_look(self):
        counted = {'kept': 0, 'broken': 0}
        lengths = set()
        for device, text in some_devices(1, 500):
            told = kept(device, Watch(text))
            self.assertTrue(right_kept(Plain(device.text), Guard(text), told), (device.text, text, told))
            self.assertIs(shows_kept(device, Watch(text), told), True)
            counted[told[0]] += 1
            lengths.add((told[0], len(told[1])))
        self.assertGreater(min(counted.values()), 60)
        self.assertTrue({('broken', 1), ('broken', 2), ('broken', 3), ('kept', 1), ('kept', 6)} <= lengths, lengths)

    def test_all_short_walks(self):
        for device, text in some_devices(2, 60):
            guard, plain = Guard(text), Plain(device.text)
            told = kept(device, Watch(text))
            for walk in walks_to(device.calls, {1: 12, 2: 6, 3: 4}[len(device.calls)]):
                log = tuple(zip(walk, plain.heard(walk)))
                if told[0] == 'kept':
                    self.assertIn((plain.go(walk)[1], guard.go(log)), told[1])
                elif len(walk) < len(told[1]):
                    self.assertNotEqual(guard.go(log), 'broken')

    def test_long_walks(self):
        # Only behind twelve calls: states and marks go round by three and by four.
        device = Device('calls a\nanswers x y\nstates p q r\nrow p a x q\nrow q a x r\nrow r a y p')
        watch = Watch('calls a\nanswers x y\nmarks i j k l\n' + '\n'.join(
            f'step {one} a {answer} {other}' for one, other in ('ij', 'jk', 'kl') for answer in 'xy')
            + '\nstep l a x i\nstep l a y broken')
        told = kept(device, watch)
        self.assertEqual(told, ('broken', ('a',) * 12))
        for length in (0, 1, 11, 13, 24, 25):
            self.assertIs(shows_kept(device, watch, ('broken', ('a',) * length)), False)
        self.assertIs(shows_kept(device, watch, ('broken', ('a',) * 12)), True)

    def test_without_steps(self):
        for device in (LAMP, STEADY, RING):
            told = kept(device, CALM)
            self.assertEqual(told, ('kept', tuple((state, 'one') for state in sorted(device.states))))

    def test_any_walk_as_short_as_can_be(self):
        watch = Watch('calls a b\nanswers x y\nmarks i\nstep i a x broken\nstep i b y broken')
        for walk in (('a',), ('b',)):
            self.assertIs(shows_kept(LAMP, watch, ('broken', walk)), True)
        for walk in (('a', 'a'), (), ['a'], 'a', ('c',), ('a', 'b'), None, (0,)):
            self.assertIs(shows_kept(LAMP, watch, ('broken', walk)), False)

    def test_any_values(self):
        for device, watch in ((LAMP, WATCH), (LAMP.turned('q', 'a', 'y', 'q'), WATCH), (RING, HALF), (STEADY, CALM)):
            told = kept(device, watch)
            for value in any_values() + [0, 1, (), 'kept', ('kept',), ('broken',), ('kept', ()), ('broken', ())]:
                self.assertIs(shows_kept(device, watch, value), same(value, told))
                self.assertIs(shows_kept(device, watch, told + (value,)), False)
                for at in range(2):
                    changed = told[:at] + (value,) + told[at + 1:]
                    self.assertIs(shows_kept(device, watch, changed), same(changed, told))

    def test_what_is_right_but_for_one_part(self):
        counted = {True: 0, False: 0}
        for turn, (device, text) in enumerate([(LAMP, WATCH.text), (RING, HALF.text), *some_devices(3, 150)]):
            watch, plain, guard = Watch(text), Plain(device.text), Guard(text)
            for value in some_variants(kept(device, watch), 80, turn):
                right = right_kept(plain, guard, value)
                self.assertIs(shows_kept(device, watch, value), right, (device.text, text, value))
                counted[right] += 1
        self.assertGreater(counted[True], 20)
        self.assertGreater(counted[False], 5000)


class TestAlwaysKept(unittest.TestCase):
    def test_by_all_sortings(self):
        counted = {'none': 0, 'kept': 0, 'broken': 0}
        deep = 0
        for tests, text in some_tests(4, 170):
            said, guard = Said(tests.text), Guard(text)
            for m in numbers_for(tests)[:4 if len(said.nodes) < 11 else 3]:
                ways = sortings(said, m)
                breaking = [way for way in ways if can_break(said, way, guard)]
                try:
                    told = always_kept(tests, Watch(text), m)
                except Long as long:
                    self.assertEqual((long.value, breaking), (600, []))
                    self.assertGreater(len(ways), 600)
                    continue
                self.assertEqual(told[0], 'none' if not ways else 'broken' if breaking else 'kept')
                self.assertTrue(right_always(said, guard, m, ways, breaking, told), (tests.text, text, m, told))
                self.assertIs(shows_always_kept(tests, Watch(text), m, told), True)
                counted[told[0]] += 1
                deep += told[0] == 'kept' and guard.marks[0] not in guard.safe()
        self.assertGreater(min(counted.values()), 40, counted)
        self.assertGreater(deep, 40)

    def test_all_devices_of_one_and_two_states(self):
        counted = {True: 0, False: 0}
        for tests, text in some_tests(5, 150):
            said, guard = Said(tests.text), Guard(text)
            if len(said.calls) + len(said.answers) > 4:
                continue
            told = always_kept(tests, Watch(text), 2)
            broken = [device for device in agreeing(said, 2) if shortest_breaking(device, guard) is not None]
            if told[0] == 'kept':
                self.assertEqual(broken, [])
            counted[told[0] == 'kept'] += 1
        self.assertGreater(min(counted.values()), 15)

    def test_what_is_broken_is_so_by_a_device(self):
        """A device with a state for each class, and one for each step behind the first row that is not told."""
        counted = 0
        for tests, text in some_tests(6, 150):
            said, guard = Said(tests.text), Guard(text)
            for m in numbers_for(tests):
                try:
                    told = always_kept(tests, Watch(text), m)
                except Long:
                    continue
                if told[0] != 'broken':
                    continue
                rows = rows_by(said, told[1])
                state = 0
                for at, (call, answer) in enumerate(told[2]):
                    if (state, call) not in rows:
                        rows[state, call] = answer, ('behind', at)
                    self.assertEqual(rows[state, call][0], answer)
                    state = rows[state, call][1]
                states = 0
                for walk, answers in said.rows:
                    state = 0
                    for call, answer in zip(walk, answers):
                        self.assertEqual(rows[state, call][0], answer)
                        state = rows[state, call][1]
                        states = max(states, state)
                self.assertLess(states, m)
                self.assertEqual(guard.go(told[2]), 'broken')
                counted += 1
        self.assertGreater(counted, 100)

    def test_none(self):
        for watch in (WATCH, HALF, CALM):
            told = always_kept(FEW, watch, 1)
            self.assertEqual(told, ('none', fits(FEW, 1)[1]))
            paper = ('cases', ('a',), (('torn', (), ('a',), ('a',)),))
            self.assertIs(shows_always_kept(FEW, watch, 1, ('none', paper)), True)
            for value in (('kept', paper), ('none', ('kept', ((0, watch.marks[0]),))), ('broken', (0,) * 5, (('a', 'y'),)),
                          ('kept', ('kept', ((0, watch.marks[0]),))), ('none', paper, ())):
                self.assertIs(shows_always_kept(FEW, watch, 1, value), False)
            self.assertIs(shows_always_kept(FEW, watch, 2, ('none', paper)), False)

    def test_safe_marks_need_nothing(self):
        # No test was ever made, and none is needed.
        for m in (1, 2, 3, 4):
            self.assertEqual(always_kept(NONE, CALM, m), ('kept', ('kept', ((0, 'one'),))))
            late = Watch('calls a b\nanswers x y\nmarks i j\nstep j a x broken\nstep i a x i')
            self.assertEqual(always_kept(NONE, late, m), ('kept', ('kept', ((0, 'i'),))))
        # Whatever a is answered, it is safe then; of b only this answer lets it.
        tests = Tests('calls a b\nanswers x y\ntest b x')
        watch = Watch('calls a b\nanswers x y\nmarks i j\nstep i b x j\nstep i b y broken\nstep i a x j\nstep i a y j')
        self.assertEqual(always_kept(tests, watch, 1)[0], 'kept')
        self.assertIs(shows_always_kept(tests, watch, 1, ('kept', ('kept', ((0, 'i'), (0, 'j'))))), False)
        self.assertIs(shows_always_kept(tests, watch, 1, ('kept', ('cases', ('b',), (('kept', ((0, 'i'), (0, 'j'))),)))), True)
        self.assertIs(shows_always_kept(tests, watch, 1, ('kept', ('kept', ((0, 'i'),)))), False)
        # Where a leads to a mark that is not safe, it has to be told, and also where it leads to broken.
        for step in ('step i a y i', 'step i a y broken'):
            risky = Watch(watch.text.replace('step i a y j', step))
            self.assertEqual(always_kept(tests, risky, 1)[0], 'broken')
            self.assertEqual(always_kept(tests.more((('a', 'x'),)), risky, 1)[0], 'kept')

    def test_a_call_whose_answers_all_lead_to_safe_marks(self):
        watch = Watch('calls a b\nanswers x y\nmarks i j k\nstep i b x j\nstep i b y k\nstep i a y broken')
        tests = Tests('calls a b\nanswers x y\ntest a x')
        told = always_kept(tests, watch, 1)
        self.assertEqual(told[0], 'kept')
        self.assertIs(shows_always_kept(tests, watch, 1, ('kept', ('cases', ('a',), (('kept', ((0, 'i'),)),)))), True)
        self.assertIs(shows_always_kept(tests, watch, 1, ('kept', ('kept', ((0, 'i'),)))), False)
        # Pairs that are not come to may stand.
        for more in (((0, 'i'), (0, 'j')), ((0, 'i'), (0, 'j'), (0, 'k')), ((0, 'i'), (0, 'k'))):
            self.assertIs(shows_always_kept(tests, watch, 1, ('kept', ('cases', ('a',), (('kept', more),)))), True)
        for more in (((0, 'j'), (0, 'i')), ((0, 'i'), (0, 'i')), ((0, 'j'),), ((0, 'i'), (1, 'j')), ((0, 'i'), (0, 'broken')),
                     ((0, 'i'), (False, 'j')), ((0, 'i'), [0, 'j']), (), [(0, 'i')], ((0, 'i', 'j'),), ((0, 'i'), None)):
            self.assertIs(shows_always_kept(tests, watch, 1, ('kept', ('cases', ('a',), (('kept', more),)))), False)

    def test_logs(self):
        watch = Watch('calls a b\nanswers x y\nmarks i j\nstep i a x j\nstep j b y broken')
        classes = (0, 1, 0, 0, 1)
        right = ('broken', classes, (('a', 'x'), ('b', 'y')))
        self.assertIs(shows_always_kept(FEW, watch, 2, right), True)
        # Behind a row that no node tells any steps may stand, up to 24, also behind the one that breaks it.
        for more, expected in (((('a', 'y'),), True), ((('a', 'x'), ('b', 'x')) * 11, True), ((('z', 'x'),), False),
                               ((('a', 'x'),) * 23, False), ((('x', 'a'),), False), ([('a', 'x')], False), (((),), False)):
            value = ('broken', classes, right[2] + tuple(more) if type(more) is tuple else list(right[2]) + more)
            self.assertIs(shows_always_kept(FEW, watch, 2, value), expected)
        for log in ((('a', 'y'), ('b', 'y')), (('a', 'x'),), (('b', 'y'),), (), (('b', 'x'), ('a', 'x'), ('b', 'y'))):
            self.assertIs(shows_always_kept(FEW, watch, 2, ('broken', classes, log)), False)
        # As long as rows are told, steps are as they tell, also behind the step that breaks it.
        watch = Watch('calls a b\nanswers x y\nmarks i\nstep i a x broken')
        for log, expected in (((('a', 'x'),), True), ((('a', 'x'), ('a', 'y')), True), ((('a', 'x'), ('a', 'x')), False),
                              ((('a', 'x'), ('b', 'x')), True), ((('b', 'y'), ('a', 'x')), True), ((('a', 'y'),), False),
                              ((('a', 'x'), ('b', 'x'), ('a', 'x')), True), ((('b', 'x'), ('a', 'x')), False)):
            self.assertIs(shows_always_kept(FEW, watch, 2, ('broken', classes, log)), expected, log)

    def test_classes(self):
        log = (('a', 'x'), ('b', 'y'))
        watch = Watch('calls a b\nanswers x y\nmarks i j\nstep i a x j\nstep j b y broken')
        said = Said(FEW.text)
        for m in (1, 2, 3, 4):
            ways = sortings(said, m)
            for classes in itertools.product(range(-1, 4), repeat=5):
                value = ('broken', classes, log)
                self.assertIs(shows_always_kept(FEW, watch, m, value), classes in ways)
        for classes in ((False, True, False, False, True), (0, 1, 0, 0), (0, 1, 0, 0, 1, 1), [0, 1, 0, 0, 1], '01001', 0, None,
                        (0, 1, 0, 0, '1'), (0, 1, 0, 0, None), (), (0, 1, 0, 0, (1,))):
            self.assertIs(shows_always_kept(FEW, watch, 2, ('broken', classes, log)), False)

    def test_any_values(self):
        for tests, watch, m in ((ENOUGH, WATCH, 2), (FEW, WATCH, 1), (FEW, WATCH, 2), (NONE, CALM, 3), (NONE, WATCH, 1)):
            told = always_kept(tests, watch, m)
            for value in any_values() + [0, 1, (), 'kept', ('kept',), ('none',), ('broken',), ('kept', ()), ('broken', (), ())]:
                self.assertIs(shows_always_kept(tests, watch, m, value), False)
                self.assertIs(shows_always_kept(tests, watch, m, told + (value,)), False)
                for at in range(len(told)):
                    changed = told[:at] + (value,) + told[at + 1:]
                    self.assertIs(shows_always_kept(tests, watch, m, changed), same(changed, told))

    def test_what_is_right_but_for_one_part(self):
        rnd = random.Random(7)
        counted = {True: 0, False: 0}
        words = set()
        for tests, text in [(FEW, WATCH.text), (ENOUGH, WATCH.text), *some_tests(8, 70)]:
            said, guard = Said(tests.text), Guard(text)
            for m in numbers_for(tests)[:3 if len(said.nodes) < 12 else 2]:
                ways = sortings(said, m)
                breaking = [way for way in ways if can_break(said, way, guard)]
                if len(ways) > 600 and not breaking:
                    continue
                told = always_kept(tests, Watch(text), m)
                if len(repr(told)) > 2000:
                    continue
                words.add(told[0])
                for value in some_variants(told, 60, rnd.random()):
                    right = right_always(said, guard, m, ways, breaking, value)
                    self.assertIs(shows_always_kept(tests, Watch(text), m, value), right, (tests.text, text, m, value))
                    counted[right] += 1
        self.assertEqual(words, {'none', 'kept', 'broken'})
        self.assertGreater(counted[True], 100)
        self.assertGreater(counted[False], 5000)

    def test_papers_that_others_made(self):
        rnd = random.Random(9)
        counted = {True: 0, False: 0}
        for tests, text in [(ENOUGH, WATCH.text), *some_tests(10, 150)]:
            said, guard = Said(tests.text), Guard(text)
            if len(said.nodes) > 14 or guard.marks[0] in guard.safe():
                continue
            for m in numbers_for(tests)[:3]:
                ways = sortings(said, m)
                if not ways or len(ways) > 600 or any(can_break(said, way, guard) for way in ways):
                    continue
                for _ in range(3):
                    value = ('kept', any_paper(rnd, said, guard, m))
                    if len(repr(value)) > 3000:
                        continue
                    self.assertTrue(right_always(said, guard, m, ways, [], value))
                    self.assertIs(shows_always_kept(tests, Watch(text), m, value), True, (tests.text, text, m, value))
                    for other in some_variants(value, 40, rnd.random()):
                        right = right_always(said, guard, m, ways, [], other)
                        self.assertIs(shows_always_kept(tests, Watch(text), m, other), right, (tests.text, text, m, other))
                        counted[right] += 1
        self.assertGreater(counted[True], 50)
        self.assertGreater(counted[False], 2000)

    def test_an_end_where_something_is_torn(self):
        # a and then a again are answered otherwise: where both nodes are of one class, either answer may be taken.
        tests = Tests('calls a\nanswers x y\ntest a x a y a y')
        for step in ('step i a x broken', 'step i a y broken'):
            watch = Watch('calls a\nanswers x y\nmarks i\n' + step)
            paper = ('cases', ('a',), (('kept', ((0, 'i'),)), ('torn', (), ('a',), ('a',))))
            self.assertIs(shows_always_kept(tests, watch, 1, ('kept', paper)), False)
            self.assertEqual(always_kept(tests, watch, 2)[0], 'broken')
        watch = Watch('calls a\nanswers x y\nmarks i j k\nstep i a y broken\nstep i a x j\nstep j a x broken\nstep j a y k')
        self.assertEqual(always_kept(tests, watch, 2)[0], 'kept')
        late = ('cases', ('a', 'a'), (('kept', ((0, 'i'), (0, 'k'), (1, 'j'))), ('kept', ((0, 'i'), (1, 'j'), (1, 'k')))))
        for pairs, expected in ((((0, 'i'), (0, 'j'), (0, 'k')), True), (((0, 'i'), (0, 'j')), False)):
            paper = ('cases', ('a',), (('kept', pairs), ('kept', pairs)))
            self.assertIs(right_always(Said(tests.text), Guard(watch.text), 2, [1], [], ('kept', paper)), False)
            self.assertIs(shows_always_kept(tests, watch, 2, ('kept', paper)), False)
            paper = ('cases', ('a',), (('kept', pairs), late))
            right = right_always(Said(tests.text), Guard(watch.text), 2, [1], [], ('kept', paper))
            self.assertIs(shows_always_kept(tests, watch, 2, ('kept', paper)), right)
            self.assertIs(right, expected)


class TestGuarantees(unittest.TestCase):
    def test_fewer_states_and_further_tests(self):
        """What is kept is so by fewer states, too, and by further tests, as long as there are such devices."""
        rnd = random.Random(11)
        counted = [0, 0]
        for tests, text in some_tests(12, 150):
            watch = Watch(text)
            for m in numbers_for(tests):
                try:
                    if always_kept(tests, watch, m)[0] != 'kept':
                        continue
                except Long:
                    continue
                for fewer in range(1, m):
                    self.assertIn(always_kept(tests, watch, fewer)[0], ('kept', 'none'))
                    counted[0] += 1
                device = Device(fits(tests, m)[1])
                for walk in random_walks(rnd, tests.calls, 2, 5):
                    more = tests.more(tuple(zip(walk, device.heard(walk))))
                    try:
                        self.assertEqual(always_kept(more, watch, m)[0], 'kept')
                        counted[1] += 1
                    except Long:
                        pass
        self.assertGreater(min(counted), 60)

    def test_other_names(self):
        for watch in (WATCH, HALF, CALM):
            other = Watch(renamed_watch(watch.text))
            for device in (LAMP, RING, STEADY, THREE):
                told = kept(Device(renamed(device.text, MARKS)), other)
                own = kept(device, watch)
                self.assertEqual(told[0], own[0])
                if own[0] == 'kept':
                    pairs = [(MARKS['states'][state], MARKS['marks'][mark]) for state, mark in own[1]]
                    self.assertEqual(told[1], tuple(sorted(pairs)))
                else:
                    self.assertEqual(len(told[1]), len(own[1]))
            for tests in (FEW, ENOUGH, NONE):
                turned = Tests(renamed(tests.text, MARKS))
                for m in (1, 2, 3):
                    told = always_kept(turned, other, m)
                    self.assertEqual(told[0], always_kept(tests, watch, m)[0])
                    self.assertIs(shows_always_kept(turned, other, m, told), True)

    def test_nothing_is_changed(self):
        device, watch, tests = Device(LAMP.text), Watch(WATCH.text), Tests(ENOUGH.text)
        for _ in range(2):
            self.assertTrue(same(kept(device, watch), kept(LAMP, WATCH)))
            self.assertTrue(same(always_kept(tests, watch, 2), always_kept(ENOUGH, WATCH, 2)))
            self.assertEqual((device, watch, tests), (LAMP, WATCH, ENOUGH))


if __name__ == '__main__':
    unittest.main()
