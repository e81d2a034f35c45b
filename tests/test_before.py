"""Points 2, 3 and 21: fits_before, shows_fits_before, widest_before, shows_widest_before."""

import itertools
import random
import unittest

from looks import Plain, same, walks_to
from parts import all_devices, both, right_told, some_chains, words_for
from raising import Raising
from toldboxes.before import fits_before, shows_fits_before, shows_widest_before, widest_before
from toldboxes.devices import Device
from toldboxes.errors import Unfit
from values import LAMP, RING, STEADY, any_values, random_text, renamed, some_variants

PLAIN = Device('calls a b\nanswers a b\nstates o\nrow o a a o\nrow o b b o')
CALM = Device('calls a b\nanswers x y\nstates i\nrow i a x i\nrow i b y i')
# Its rows, the other way round.
BACK = Device('calls a b\nanswers b a\nstates o\nrow o a b o\nrow o b a o')
ONE_CALL = Device('calls a\nanswers x y\nstates p q\nrow p a x q\nrow q a y p')
# From r on x is answered whatever is called; three steps lead there.
FALLING = Device('calls a b\nanswers x y\nstates p q r\nrow p a x q\nrow p b y q\nrow q a x r\nrow q b y r\n'
                 'row r a x r\nrow r b x r')
ALWAYS_Y = Device('calls a\nanswers x y\nstates i\nrow i a y i')


def step_of(part, known, wanted):
    def step(place, call):
        word, goal = part.rows[place[0], call]
        answer, state = known.rows[place[1], word]
        reply, aim = wanted.rows[place[2], call]
        return (goal, state, aim) if answer == reply else None
    return step


def right_fits(part, known, wanted, value):
    first = (part.states[0], known.states[0], wanted.states[0])
    return right_told(('fits', 'apart'), first, wanted.calls, step_of(part, known, wanted), value)


def choices(known, wanted, held, pair, call):
    """The calls of known that are answered as wanted there, and lead to a pair that can be held."""
    reply, aim = wanted.rows[pair[1], call]
    return tuple(word for word in known.calls
                 if known.rows[pair[0], word][0] == reply and (known.rows[pair[0], word][1], aim) in held)


def pairs_held(known, wanted):
    """The pairs from which on what is wanted can be answered for ever: those that are left when all others went."""
    held = set(itertools.product(known.states, wanted.states))
    while True:
        left = {pair for pair in held if all(choices(known, wanted, held, pair, call) for call in wanted.calls)}
        if left == held:
            return held
        held = left


def look_at_widest(known, wanted):
    """The rows that widest_before tells; None if the pair of both first states is lost."""
    held = pairs_held(known, wanted)
    found = [(known.states[0], wanted.states[0])]
    if found[0] not in held:
        return None
    rows = []
    for pair in found:
        for call in wanted.calls:
            words = choices(known, wanted, held, pair, call)
            rows.append((pair, call, words))
            for word in words:
                goal = (known.rows[pair[0], word][1], wanted.rows[pair[1], call][1])
                if goal not in found:
                    found.append(goal)
    return tuple(sorted(rows))


def right_widest(known, wanted, value):
    rows = look_at_widest(known, wanted)
    if rows is not None:
        return same(value, ('widest', rows))
    if type(value) is not tuple or len(value) != 2 or not same(value[0], 'never'):
        return False
    if type(value[1]) is not tuple or not value[1]:
        return False
    ahead = set()
    for row in value[1]:
        if type(row) is not tuple or len(row) != 2 or type(row[0]) is not tuple or len(row[0]) != 2:
            return False
        if not all(type(word) is str for word in (*row[0], row[1])) or row[1] not in wanted.calls:
            return False
        if row[0][0] not in known.states or row[0][1] not in wanted.states:
            return False
        others = set(itertools.product(known.states, wanted.states)) - ahead
        if choices(known, wanted, others, *row):
            return False
        ahead.add(row[0])
    return value[1][-1][0] == (known.states[0], wanted.states[0])


def goes_by_rows(part, known, wanted, rows):
    """Whether behind each walk the part answers as the rows let it."""
    let = {(pair, call): words for pair, call, words in rows}
    found = [(part.states[0], known.states[0], wanted.states[0])]
    for state, left, right in found:
        for call in wanted.calls:
            word, goal = part.rows[state, call]
            if word not in let[(left, right), call]:
                return False
            place = (goal, known.rows[left, word][1], wanted.rows[right, call][1])
            if place not in found:
                found.append(place)
    return True


def some_pairs(seed, many):
    """Known parts and what is wanted: often a part is known by which it fits."""
    for _, known, wanted in some_chains(seed, many):
        yield known, wanted
    rnd = random.Random(seed)
    for turn in range(many // 2):
        calls, between, answers = words_for(rnd, turn)
        yield (Device(random_text(rnd, between, answers, rnd.randint(1, 4))),
               Device(random_text(rnd, calls, answers, rnd.randint(1, 3))))


class TestErrors(Raising, unittest.TestCase):
    def test_what_cannot_be_wanted(self):
        turned = Device(LAMP.text.replace('answers x y', 'answers y x'))
        more = Device(LAMP.text.replace('answers x y', 'answers x y z'))
        for known, wanted in ((ONE_CALL, ONE_CALL), (ONE_CALL, LAMP), (LAMP, turned), (turned, LAMP), (LAMP, more),
                              (more, LAMP), (LAMP, PLAIN)):
            self.assert_tells(Unfit, wanted, widest_before, known, wanted)
            self.assert_tells(Unfit, wanted, shows_widest_before, known, wanted, None)
            # Ahead of what is due for the part.
            for part in (PLAIN, LAMP, None, (), 'a'):
                self.assert_tells(Unfit, wanted, fits_before, part, known, wanted)
                self.assert_tells(Unfit, wanted, shows_fits_before, part, known, wanted, ('fits', ()))
        # What is wanted may have other calls than known, also only one.
        self.assertEqual(widest_before(LAMP, ONE_CALL)[0], 'widest')
        self.assertEqual(widest_before(LAMP, ALWAYS_Y)[0], 'widest')

    def test_parts_that_are_unfit(self):
        others = [LAMP.text, (PLAIN,), [PLAIN], BACK, LAMP, ONE_CALL, Device(PLAIN.text.replace('answers a b', 'answers a b c'))]
        others.append(Device(PLAIN.text.replace('calls a b', 'calls b a')))
        for value in any_values() + others:
            for wanted in (LAMP, CALM):
                self.assert_tells(Unfit, value, fits_before, value, LAMP, wanted)
                self.assert_tells(Unfit, value, shows_fits_before, value, LAMP, wanted, ('fits', (('o', 'p', 'p'),)))
        self.assert_tells(Unfit, PLAIN, fits_before, PLAIN, LAMP, ONE_CALL)

    def test_names_of_arguments(self):
        told = fits_before(part=PLAIN, known=LAMP, wanted=LAMP)
        self.assertIs(shows_fits_before(part=PLAIN, known=LAMP, wanted=LAMP, value=told), True)
        told = widest_before(known=LAMP, wanted=LAMP)
        self.assertIs(shows_widest_before(known=LAMP, wanted=LAMP, value=told), True)


class TestFits(unittest.TestCase):
    def test_by_a_look(self):
        counted = {'fits': 0, 'apart': 0}
        lengths, sizes = set(), set()
        for part, known, wanted in some_chains(1, 700):
            told = fits_before(part, known, wanted)
            plain = [Plain(device.text) for device in (part, known, wanted)]
            self.assertTrue(right_fits(*plain, told), (part.text, known.text, wanted.text, told))
            self.assertIs(shows_fits_before(part, known, wanted, told), True)
            counted[told[0]] += 1
            sizes.add((len(part), len(known)))
            lengths.add((told[0], len(told[1])))
        self.assertGreater(min(counted.values()), 80, counted)
        self.assertEqual(sizes, set(itertools.product((1, 2, 3, 4), repeat=2)))
        self.assertTrue({('apart', 1), ('apart', 2), ('apart', 3), ('apart', 4), ('fits', 1), ('fits', 4)} <= lengths)

    def test_all_short_walks(self):
        for part, known, wanted in some_chains(2, 120):
            told = fits_before(part, known, wanted)
            plain = [Plain(device.text) for device in (part, known, wanted)]
            for walk in walks_to(wanted.calls, {1: 10, 2: 6, 3: 4}[len(wanted.calls)]):
                fits = both(plain[0], plain[1], walk) == plain[2].heard(walk)
                if told[0] == 'fits' or len(walk) < len(told[1]):
                    self.assertTrue(fits)
                elif walk == told[1]:
                    self.assertFalse(fits)

    def test_any_walk_as_short_as_can_be(self):
        for walk in (('a', 'a'),):
            self.assertIs(shows_fits_before(PLAIN, LAMP, CALM, ('apart', walk)), True)
        for walk in (('a',), ('b', 'a'), ('a', 'b'), ('a', 'a', 'a'), ['a', 'a'], 'aa', ('a', 'c'), (), ('a', 0), None,
                     ('a',) * 99):
            self.assertIs(shows_fits_before(PLAIN, LAMP, CALM, ('apart', walk)), False)
        odd = CALM.turned('i', 'a', 'y', 'i').turned('i', 'b', 'x', 'i')
        for walk in (('a',), ('b',)):
            self.assertIs(shows_fits_before(PLAIN, LAMP, odd, ('apart', walk)), True)

    def test_any_values(self):
        for wanted in (LAMP, CALM):
            told = fits_before(PLAIN, LAMP, wanted)
            for value in any_values() + [0, 1, (), 'fits', ('fits',), ('apart',), ('fits', ()), ('apart', ())]:
                self.assertIs(shows_fits_before(PLAIN, LAMP, wanted, value), same(value, told))
                self.assertIs(shows_fits_before(PLAIN, LAMP, wanted, told + (value,)), False)
                for at in range(2):
                    changed = told[:at] + (value,) + told[at + 1:]
                    self.assertIs(shows_fits_before(PLAIN, LAMP, wanted, changed), same(changed, told))

    def test_what_is_right_but_for_one_part(self):
        counted = {True: 0, False: 0}
        for turn, (part, known, wanted) in enumerate([(PLAIN, LAMP, LAMP), (PLAIN, LAMP, CALM), *some_chains(3, 200)]):
            plain = [Plain(device.text) for device in (part, known, wanted)]
            for value in some_variants(fits_before(part, known, wanted), 60, turn):
                right = right_fits(*plain, value)
                self.assertIs(shows_fits_before(part, known, wanted, value), right)
                counted[right] += 1
        self.assertGreater(counted[True], 5)
        self.assertGreater(counted[False], 5000)


class TestWidest(unittest.TestCase):
    def test_by_a_look(self):
        counted = {'widest': 0, 'never': 0}
        sizes = set()
        for known, wanted in some_pairs(4, 600):
            told = widest_before(known, wanted)
            plain = Plain(known.text), Plain(wanted.text)
            self.assertTrue(right_widest(*plain, told), (known.text, wanted.text, told))
            self.assertIs(shows_widest_before(known, wanted, told), True)
            counted[told[0]] += 1
            sizes.add((told[0], len(told[1])))
        self.assertGreater(min(counted.values()), 150, counted)
        self.assertTrue({('never', 1), ('never', 2), ('never', 3), ('never', 4), ('widest', 1), ('widest', 6)} <= sizes, sizes)

    def test_each_part_of_one_and_two_states(self):
        """Those that fit are just those that answer as the rows let them; none fits where it is never so."""
        counted = {'widest': [0, 0], 'never': [0, 0]}
        for known, wanted in some_pairs(5, 60):
            told = widest_before(known, wanted)
            plain = Plain(known.text), Plain(wanted.text)
            if len(wanted.calls) * len(known.calls) > 6:
                continue
            for many in (1, 2) if len(wanted.calls) * len(known.calls) < 5 else (1,):
                for part in all_devices(wanted.calls, known.calls, many):
                    fits = fits_by_walks(part, *plain)
                    expected = told[0] == 'widest' and goes_by_rows(part, *plain, told[1])
                    self.assertEqual(fits, expected)
                    counted[told[0]][fits] += 1
        self.assertGreater(min(counted['widest']), 50, counted)
        self.assertEqual(counted['never'][1], 0)
        self.assertGreater(counted['never'][0], 50)

    def test_pairs_that_are_lost_at_once_and_by_going_on(self):
        told = widest_before(FALLING, ALWAYS_Y)
        self.assertEqual(told, ('never', ((('r', 'i'), 'a'), (('q', 'i'), 'a'), (('p', 'i'), 'a'))))
        self.assertIs(shows_widest_before(FALLING, ALWAYS_Y, told), True)
        self.assertEqual(widest_before(FALLING.begun('r'), ALWAYS_Y), ('never', ((('r', 'i'), 'a'),)))
        rows = told[1]
        for value, expected in (
                (rows, True), (rows[:1] + rows, True), (rows[:2] + rows[:1] + rows[2:], True), (rows * 2, True),
                (rows[:2] + rows[1:], True), (rows[1:], False), (rows[:2], False), (rows[2:], False), (rows[::-1], False),
                (rows + rows[:1], False), ((), False), (list(rows), False), ((rows[1], rows[0], rows[2]), False),
                (rows * 100, True), (rows[:2] + (('p', 'i', 'a'),), False), (rows[:2] + ((('p', 'i'), 'b'),), False)):
            self.assertIs(shows_widest_before(FALLING, ALWAYS_Y, ('never', value)), expected)

    def test_rows_in_any_sequence(self):
        """Rows that were put together by the tests: pairs as they are lost, shuffled as far as that goes, some twice."""
        rnd = random.Random(6)
        counted = {True: 0, False: 0}
        for known, wanted in some_pairs(7, 400):
            plain = Plain(known.text), Plain(wanted.text)
            if look_at_widest(*plain) is not None:
                continue
            for _ in range(8):
                value = ('never', any_rows(rnd, *plain))
                right = right_widest(*plain, value)
                self.assertIs(shows_widest_before(known, wanted, value), right, (known.text, wanted.text, value))
                counted[right] += 1
        self.assertGreater(min(counted.values()), 100, counted)

    def test_any_values(self):
        for known, wanted in ((LAMP, LAMP), (LAMP, CALM), (FALLING, ALWAYS_Y), (RING, STEADY)):
            told = widest_before(known, wanted)
            for value in any_values() + [0, 1, (), 'never', ('never',), ('widest',), ('never', ()), ('widest', ())]:
                self.assertIs(shows_widest_before(known, wanted, value), False)
                self.assertIs(shows_widest_before(known, wanted, told + (value,)), False)
                for at in range(2):
                    changed = told[:at] + (value,) + told[at + 1:]
                    self.assertIs(shows_widest_before(known, wanted, changed), same(changed, told))

    def test_what_is_right_but_for_one_part(self):
        counted = {True: 0, False: 0}
        for turn, (known, wanted) in enumerate([(LAMP, LAMP), (LAMP, CALM), (FALLING, ALWAYS_Y), *some_pairs(8, 130)]):
            plain = Plain(known.text), Plain(wanted.text)
            for value in some_variants(widest_before(known, wanted), 60, turn):
                right = right_widest(*plain, value)
                self.assertIs(shows_widest_before(known, wanted, value), right, (known.text, wanted.text, value))
                counted[right] += 1
        self.assertGreater(counted[True], 50)
        self.assertGreater(counted[False], 5000)

    def test_answers_in_sequence(self):
        known = Device('calls b a\nanswers x y\nstates p\nrow p a x p\nrow p b x p')
        wanted = Device('calls a\nanswers x y\nstates i\nrow i a x i')
        self.assertEqual(widest_before(known, wanted), ('widest', ((('p', 'i'), 'a', ('b', 'a')),)))
        self.assertIs(shows_widest_before(known, wanted, ('widest', ((('p', 'i'), 'a', ('a', 'b')),))), False)


def fits_by_walks(part, known, wanted):
    """Whether what is heard of both is as wanted, for all walks up to as many calls as tell devices of so many states."""
    level = {(part.states[0], known.states[0], wanted.states[0])}
    for _ in range(len(part.states) * len(known.states) + len(wanted.states)):
        level = {step_of(part, known, wanted)(place, call) for place in level for call in wanted.calls}
        if None in level:
            return False
    return True


def any_rows(rnd, known, wanted):
    """Rows (pair, call), the pair of both first states in the last one; most of them by pairs that are lost by then."""
    first = (known.states[0], wanted.states[0])
    places = list(itertools.product(known.states, wanted.states))
    rows = []
    ahead = set()
    for _ in range(40):
        pair, call = rnd.choice(places), rnd.choice(wanted.calls)
        if not choices(known, wanted, set(places) - ahead, pair, call) or rnd.random() < 0.01:
            rows.append((pair, call))
            ahead.add(pair)
            if pair == first and rnd.random() < 0.8:
                break
    return tuple(rows)


class TestNames(unittest.TestCase):
    NAMES = {'calls': {'a': 'fits', 'b': 'a'}, 'answers': {'x': 'never', 'y': 'b'},
             'states': {'p': 'z', 'q': 'a', 'r': 's1', 's': 's0', 't': 't', 'i': 'u', 'o': 'apart'}}

    def test_other_names(self):
        states, calls = self.NAMES['states'], self.NAMES['calls']
        for known, wanted in itertools.product((LAMP, RING, STEADY, CALM, FALLING), repeat=2):
            own = widest_before(known, wanted)
            told = widest_before(*[Device(renamed(device.text, self.NAMES)) for device in (known, wanted)])
            self.assertEqual(told[0], own[0])
            if own[0] == 'widest':
                rows = [((states[pair[0]], states[pair[1]]), calls[call], tuple(calls[word] for word in words))
                        for pair, call, words in own[1]]
                self.assertEqual(told[1], tuple(sorted(rows)))
            else:
                rows = tuple(((states[pair[0]], states[pair[1]]), calls[call]) for pair, call in own[1])
                turned = [Device(renamed(device.text, self.NAMES)) for device in (known, wanted)]
                self.assertIs(shows_widest_before(*turned, ('never', rows)), True)

    def test_calls_in_another_sequence(self):
        for known, wanted in itertools.product((LAMP, RING, STEADY, CALM, FALLING), repeat=2):
            turned = Device(wanted.text.replace('calls a b', 'calls b a'))
            self.assertEqual(widest_before(known, turned)[0], widest_before(known, wanted)[0])
            if widest_before(known, wanted)[0] == 'widest':
                self.assertEqual(widest_before(known, turned), widest_before(known, wanted))

    def test_nothing_is_changed(self):
        part, known, wanted = Device(PLAIN.text), Device(LAMP.text), Device(CALM.text)
        for _ in range(2):
            self.assertTrue(same(fits_before(part, known, wanted), fits_before(PLAIN, LAMP, CALM)))
            self.assertTrue(same(widest_before(known, wanted), widest_before(LAMP, CALM)))
            self.assertEqual((part, known, wanted), (PLAIN, LAMP, CALM))


if __name__ == '__main__':
    unittest.main()
