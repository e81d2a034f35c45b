"""Points 2, 3 (a, b, c, f) and 22: fits_behind, widest_behind, led, same_behind, proves_behind and what shows them."""

import itertools
import random
import unittest

from books import first_quarrel
from looks import (
    Plain, Said, first_parting, gone_on, is_whole, right_cases, right_device, rows_agreeing, same, tears, walks_to,
)
from parts import all_devices, both, is_long_walk, levels, right_told, some_chains, together, words_for
from raising import Raising
from toldboxes.behind import (
    fits_behind, led, proves_behind, same_behind, shows_fits_behind, shows_proves_behind, shows_same_behind,
    shows_widest_behind, widest_behind,
)
from toldboxes.devices import Device
from toldboxes.errors import Against, BadNumber, Long, OtherCalls, Quarrel, Unfit, Wide
from toldboxes.likeness import alike
from toldboxes.proving import proves
from toldboxes.records import Tests, asked
from toldboxes.sortings import sortings
from values import (
    ENOUGH, FEW, LAMP, RING, STEADY, any_values, random_text, random_walks, renamed, some_variants,
)

TURN = Device('calls x y\nanswers x y\nstates o\nrow o x y o\nrow o y x o')
SAME = Device('calls x y\nanswers x y\nstates o\nrow o x x o\nrow o y y o')
BACK = Device('calls a b\nanswers x y\nstates p q\nrow p a y q\nrow p b x p\nrow q a x p\nrow q b x q')
CALM = Device('calls a b\nanswers x y\nstates i\nrow i a x i\nrow i b y i')
WHOLE = Tests('calls a b\nanswers x y\ntest a y a x\ntest b x')
# It answers its calls by themselves.
TELLING = Device('calls x y\nanswers x y\nstates p q\nrow p x x q\nrow p y x q\nrow q x y q\nrow q y y q')
ECHO = Device('calls x y\nanswers x y\nstates o\nrow o x x o\nrow o y y o')
# With these behind it come sixty lots, and sixty-one.
SIXTY = (
    Device('calls a b c\nanswers u v\nstates x1 row s0 q\nrow s0 c u q\nrow s0 b u s0\nrow q b u s0\nrow row b u x1\n'
           'row q a v x1\nrow row a u s0\nrow x1 a u x1\nrow row c v x1\nrow q c v x1\nrow x1 c v row\nrow x1 b v q\n'
           'row s0 a u q'),
    Device('calls a b c\nanswers x y\nstates p q x1 s0\nrow x1 a x q\nrow q a x s0\nrow p a x x1\nrow q c x q\n'
           'row p b x q\nrow x1 b x p\nrow s0 a x s0\nrow x1 c x q\nrow s0 b x q\nrow p c x p\nrow q b x x1\nrow s0 c x s0'),
)
ONE_MORE = (
    Device('calls a b c\nanswers u v\nstates p s0 x1 q\nrow s0 c u s0\nrow x1 a v x1\nrow s0 b v s0\nrow x1 b u p\n'
           'row p c u p\nrow x1 c u q\nrow s0 a u p\nrow p a u q\nrow q b u p\nrow p b v x1\nrow q a v q\nrow q c v q'),
    Device('calls a b c\nanswers x y\nstates row s0 s1 q\nrow row b x s0\nrow s0 a x row\nrow row a x s1\nrow s0 b x row\n'
           'row q b x s1\nrow s0 c x s1\nrow row c x row\nrow s1 a x s1\nrow s1 b x q\nrow q c x q\nrow s1 c x s0\n'
           'row q a x s0'),
)
# These walks prove the part behind known among all of three states, and have just 600 sortings by it.
SIX_HUNDRED = (
    Device('calls a b\nanswers u v w\nstates p q r\nrow p a u r\nrow p b w q\nrow q a v r\nrow q b v q\nrow r a u q\n'
           'row r b u q'),
    Device('calls u v w\nanswers x y\nstates s\nrow s u y s\nrow s v x s\nrow s w y s'),
    tuple(tuple(walk) for walk in ('aaba', 'bbaa', 'bbba', 'ababbaa', 'babbabbab', 'aaabaab')),
)
OTHERS = [Device(text) for text in (
    'calls b a\nanswers x y\nstates i\nrow i a x i\nrow i b y i', 'calls a\nanswers x y\nstates i\nrow i a x i',
    'calls a b c\nanswers x y\nstates i\nrow i a x i\nrow i b y i\nrow i c y i')]


def fits_step(part, known, wanted):
    def step(place, call):
        word, state = known.rows[place[1], call]
        answer, goal = part.rows[place[0], word]
        reply, aim = wanted.rows[place[2], call]
        return (goal, state, aim) if answer == reply else None
    return step


def same_step(known, part, other):
    def step(place, call):
        word, state = known.rows[place[0], call]
        answer, goal = part.rows[place[1], word]
        reply, aim = other.rows[place[2], word]
        return (state, goal, aim) if answer == reply else None
    return step


def firsts(*devices):
    return tuple(device.states[0] for device in devices)


def right_fits(part, known, wanted, value):
    return right_told(('fits', 'apart'), firsts(part, known, wanted), known.calls, fits_step(part, known, wanted), value)


def right_same(known, part, other, value):
    return right_told(('alike', 'apart'), firsts(known, part, other), known.calls, same_step(known, part, other), value)


def look_at_widest(known, wanted):
    """The rows of all lots that come; None if wanted answers some walks otherwise that known answers alike."""
    found = [frozenset([firsts(known, wanted)])]
    rows = []
    for lot in found:
        for word in known.answers:
            steps = [(wanted.rows[goal, call][0], (known.rows[state, call][1], wanted.rows[goal, call][1]))
                     for state, goal in lot for call in known.calls if known.rows[state, call][0] == word]
            if len({reply for reply, _ in steps}) > 1:
                return None
            if steps:
                behind = frozenset(pair for _, pair in steps)
                rows.append((tuple(sorted(lot)), word, steps[0][0]))
                if behind not in found:
                    found.append(behind)
    return tuple(sorted(rows))


def right_widest(known, wanted, value):
    rows = look_at_widest(known, wanted)
    if rows is not None:
        return same(value, ('widest', rows))
    if type(value) is not tuple or len(value) != 3 or not same(value[0], 'never'):
        return False
    _, walk, other = value
    if not is_long_walk(walk, known.calls) or not is_long_walk(other, known.calls):
        return False
    return known.heard(walk) == known.heard(other) and wanted.heard(walk) != wanted.heard(other)


def goes_by_rows(part, known, rows, lots):
    """Whether the part answers what the rows tell, behind what known can have answered; lots as they lead on."""
    told = {(lot, word): reply for lot, word, reply in rows}
    first = rows_first(rows, known)
    found = [(first, part.states[0])]
    for lot, state in found:
        for word in known.answers:
            if (lot, word) in told:
                answer, goal = part.rows[state, word]
                if answer != told[lot, word]:
                    return False
                place = (lots[lot, word], goal)
                if place not in found:
                    found.append(place)
    return True


def rows_first(rows, known):
    """The lot of the pair of both first states alone."""
    return next(lot for lot, _, _ in rows if len(lot) == 1 and lot[0][0] == known.states[0])


def lots_behind(known, wanted, rows):
    """To which lot each row leads."""
    found = {}
    for lot, word, _ in rows:
        pairs = {(known.rows[state, call][1], wanted.rows[goal, call][1])
                 for state, goal in lot for call in known.calls if known.rows[state, call][0] == word}
        found[lot, word] = tuple(sorted(pairs))
    return found


def text_led(known, tests):
    """The text of the tests as known leads them."""
    lines = [' '.join(['calls', *known.answers]), tests.text.split('\n')[1]]
    for line in tests.text.split('\n')[2:]:
        words = line.split(' ')[1:]
        pairs = zip(known.heard(words[::2]), words[1::2])
        lines.append(' '.join(['test', *itertools.chain(*pairs)]))
    return '\n'.join(lines)


def may_differ(known, part, rows):
    """Whether some part with these rows, and any others, does not do the same behind known."""
    found = [(0, *firsts(known, part))]
    for place, state, goal in found:
        for call in known.calls:
            word, behind = known.rows[state, call]
            answer, aim = part.rows[goal, word]
            if rows.get((place, word), (None,))[0] != answer:
                return True
            triple = (rows[place, word][1], behind, aim)
            if triple not in found:
                found.append(triple)
    return False


def is_closed(said, known, part, place, triples, triple, careless=False):
    """Whether each call of known leads from a triple to one of the triples; by which answers, who is careless forgets."""
    number, state, goal = triple
    for call in known.calls:
        word, behind = known.rows[state, call]
        answer, aim = part.rows[goal, word]
        nodes = [node + (word,) for node in place if place[node] == number and node + (word,) in place]
        if not any((place[node], behind, aim) in triples and (careless or said.told[node] == answer) for node in nodes):
            return False
    return True


def right_alike_end(said, known, part, place, value):
    many = len(set(place.values()))
    if len(value) != 2 or not same(value[0], 'alike') or type(value[1]) is not tuple:
        return False
    for triple in value[1]:
        if type(triple) is not tuple or len(triple) != 3 or not is_whole(triple[0], 0, many - 1):
            return False
        if not all(type(name) is str for name in triple[1:]):
            return False
        if triple[1] not in known.states or triple[2] not in part.states:
            return False
    if list(value[1]) != sorted(set(value[1])) or (0, *firsts(known, part)) not in value[1]:
        return False
    return all(is_closed(said, known, part, place, value[1], triple) for triple in value[1])


def right_proves(known, part, said, m, proved, value):
    """said are the tests as they are led; proved is whether no part that agrees differs."""
    if type(value) is not tuple or len(value) not in (2, 3):
        return False
    if len(value) == 2:
        if not same(value[0], 'proved') or not proved:
            return False
        return right_cases(said, m, value[1], lambda place, end: right_alike_end(said, known, part, place, end))
    if not same(value[0], 'passes') or not is_long_walk(value[2], known.calls):
        return False
    other = right_device(said, value[1], m)
    return other is not None and both(known, part, value[2]) != both(known, other, value[2])


def any_end(rnd, said, known, part, place, careless=False):
    """Any right end for a beginning; None if there is none, or chance finds none."""
    triples = list(itertools.product(sorted(set(place.values())), known.states, part.states))
    if rnd is not None and rnd.random() < 0.3:
        triples = rnd.sample(triples, rnd.randint(1, len(triples)))
    triples = set(triples)
    while True:
        left = {triple for triple in triples if is_closed(said, known, part, place, triples, triple, careless)}
        if left == triples:
            return ('alike', tuple(sorted(triples))) if (0, *firsts(known, part)) in triples else None
        triples = left


def any_paper(rnd, said, known, part, m, place=None):
    """Any right cases by which it is proved: ends stand where they can, also where something is open or torn."""
    place = gone_on(said, {(): 0} if place is None else place)
    torn = tears(said, place)
    nodes = [node for node in said.nodes if node not in place and node[:-1] in place]
    end = any_end(rnd, said, known, part, place) if rnd.random() < 0.5 or not nodes else None
    if end is None and not nodes and not torn:
        end = any_end(None, said, known, part, place)
    if end is not None:
        return end
    if torn and (not nodes or rnd.random() < 0.5):
        return rnd.choice(torn)
    node = rnd.choice(nodes)
    goals = range(min(m, len(set(place.values())) + 1))
    return 'cases', node, tuple(any_paper(rnd, said, known, part, m, {**place, node: goal}) for goal in goals)


def careless_paper(said, known, part, m, place=None):
    """Cases that go on to the last node, with ends wherever the rows lead on, whatever was answered; None if there are none."""
    place = gone_on(said, {(): 0} if place is None else place)
    nodes = [node for node in said.nodes if node not in place and node[:-1] in place]
    if not nodes:
        return any_end(None, said, known, part, place, True) or (tears(said, place) or [None])[0]
    parts = tuple(careless_paper(said, known, part, m, {**place, nodes[0]: goal})
                  for goal in range(min(m, len(set(place.values())) + 1)))
    return None if None in parts else ('cases', nodes[0], parts)


def tests_of(known, part, walks):
    """The tests of both together with these walks."""
    lines = [' '.join(['calls', *known.calls]), ' '.join(['answers', *part.answers])]
    for walk in walks:
        pairs = zip(walk, part.heard(known.heard(walk)))
        lines.append(' '.join(['test', *itertools.chain(*pairs)]))
    return Tests('\n'.join(lines))


def some_wholes(seed, many, most=2):
    """Known parts, parts behind them, and tests of both: of many walks or few."""
    rnd = random.Random(seed)
    for turn in range(many):
        calls, between, answers = words_for(rnd, turn)
        known = Device(random_text(rnd, calls, between, rnd.randint(1, 3)))
        part = Device(random_text(rnd, between, answers, rnd.randint(1, most)))
        length = {1: 7, 2: 3, 3: 2}[len(calls)]
        walks = tuple(itertools.product(calls, repeat=rnd.randint(1, length)))
        if turn % 3 == 0:
            walks = random_walks(rnd, calls, rnd.randint(0, 5), 5)
        yield known, part, tests_of(known, part, walks)


def numbers_for(part):
    return (1, 2, 3) if len(part.calls) == 3 else (1, 2, 3, 4)


class TestErrors(Raising, unittest.TestCase):
    def test_what_cannot_be_wanted(self):
        for wanted in OTHERS:
            self.assert_tells(Unfit, wanted, widest_behind, LAMP, wanted)
            self.assert_tells(Unfit, wanted, shows_widest_behind, LAMP, wanted, None)
            self.assert_tells(Unfit, LAMP, widest_behind, wanted, LAMP)
            for part in (TURN, LAMP, None, (), 'x'):
                self.assert_tells(Unfit, wanted, fits_behind, part, LAMP, wanted)
                self.assert_tells(Unfit, wanted, shows_fits_behind, part, LAMP, wanted, ('fits', ()))
        # It may have other answers than known.
        more = Device('calls a b\nanswers u v w\nstates i\nrow i a u i\nrow i b u i')
        self.assertEqual(widest_behind(LAMP, more)[0], 'widest')

    def test_parts_that_are_unfit(self):
        odd = [TURN.text, (TURN,), [TURN], LAMP, Device(TURN.text.replace('calls x y', 'calls y x')),
               Device('calls x\nanswers x y\nstates o\nrow o x x o'),
               Device('calls x y z\nanswers x y\nstates o\nrow o x x o\nrow o y x o\nrow o z x o')]
        answers = [Device(TURN.text.replace('answers x y', answers)) for answers in ('answers y x', 'answers x y z')]
        for value in any_values() + odd + answers:
            self.assert_tells(Unfit, value, fits_behind, value, LAMP, BACK)
            self.assert_tells(Unfit, value, shows_fits_behind, value, LAMP, BACK, ('fits', (('o', 'p', 'p'), ('o', 'q', 'q'))))
        for value in any_values() + odd:
            for other in (TURN, None, LAMP):
                self.assert_tells(Unfit, value, same_behind, LAMP, value, other)
                self.assert_tells(Unfit, value, shows_same_behind, LAMP, value, other, None)
            for tests in (WHOLE, Tests('calls a\nanswers x y')):
                self.assert_tells(Unfit, value, proves_behind, LAMP, value, tests, 2)
                self.assert_tells(Unfit, value, shows_proves_behind, LAMP, value, tests, None, None)
        # Here any answers may be: those of wanted are not asked for.
        for part in answers:
            self.assertEqual(same_behind(LAMP, part, part)[0], 'alike')

    def test_other_calls(self):
        odd = [TURN.text, (TURN,), LAMP, Device(TURN.text.replace('calls x y', 'calls y x'))]
        odd += [Device(TURN.text.replace('answers x y', answers)) for answers in ('answers y x', 'answers x y z')]
        for value in any_values() + odd:
            self.assert_tells(OtherCalls, value, same_behind, LAMP, TURN, value)
            self.assert_tells(OtherCalls, value, shows_same_behind, LAMP, TURN, value, ('alike', ()))

    def test_tests_that_are_unfit(self):
        for heads in ('calls b a\nanswers x y', 'calls a\nanswers x y', 'calls a b c\nanswers x y', 'calls x y\nanswers x y'):
            tests = Tests(heads)
            self.assert_tells(Unfit, tests, led, LAMP, tests)
            for m in (0, 2, None):
                self.assert_tells(Unfit, tests, proves_behind, LAMP, TURN, tests, m)
                self.assert_tells(Unfit, tests, shows_proves_behind, LAMP, TURN, tests, m, None)
        for heads in ('calls a b\nanswers y x', 'calls a b\nanswers x y z', 'calls a b\nanswers u v'):
            tests = Tests(heads)
            self.assertEqual(led(LAMP, tests).text, heads.replace('calls a b', 'calls x y'))
            self.assert_tells(Unfit, tests, proves_behind, LAMP, TURN, tests, None)
            self.assert_tells(Unfit, tests, shows_proves_behind, LAMP, TURN, tests, None, None)

    def test_against(self):
        for rows, number in (('test a x', 0), ('test a y a y', 0), ('test a y a x\ntest b x\ntest a y b y', 2),
                             ('test b x\ntest a x\ntest a x a x', 1)):
            tests = Tests('calls a b\nanswers x y\n' + rows)
            for m in (0, 1, 2, None, 'a', True):
                self.assert_tells(Against, number, proves_behind, LAMP, TURN, tests, m)
                self.assert_tells(Against, number, shows_proves_behind, LAMP, TURN, tests, m, ('proved', ()))
        # Also where the tests quarrel when they are led.
        tests = Tests('calls a b\nanswers x y\ntest a x\ntest b x a y\ntest b x b x')
        self.assert_tells(Quarrel, (1, 2), led, CALM.turned('i', 'b', 'x', 'i'), tests)
        self.assert_tells(Against, 1, proves_behind, CALM.turned('i', 'b', 'x', 'i'), SAME, tests, 2)

    def test_wrong_numbers(self):
        three = Device('calls a b\nanswers x y z\nstates i\nrow i a x i\nrow i b y i')
        part = Device('calls x y z\nanswers x y\nstates o\nrow o x x o\nrow o y y o\nrow o z y o')
        whole = Tests('calls a b\nanswers x y\ntest a x')
        for value in any_values() + [0, 5, (), '2', (2,), True]:
            self.assert_tells(BadNumber, value, proves_behind, LAMP, TURN, WHOLE, value)
            self.assert_tells(BadNumber, value, shows_proves_behind, LAMP, TURN, WHOLE, value, None)
        # The number of the part's calls is asked for, not that of known.
        self.assert_tells(BadNumber, 4, proves_behind, three, part, whole, 4)
        self.assertEqual(proves_behind(three, part, whole, 3)[0], 'passes')
        wide = Device('calls a b c\nanswers x y\nstates i\nrow i a x i\nrow i b y i\nrow i c y i')
        self.assertEqual(proves_behind(wide, TURN, Tests('calls a b c\nanswers x y'), 4)[0], 'passes')

    def test_names_of_arguments(self):
        told = fits_behind(part=TURN, known=LAMP, wanted=BACK)
        self.assertIs(shows_fits_behind(part=TURN, known=LAMP, wanted=BACK, value=told), True)
        told = widest_behind(known=LAMP, wanted=BACK)
        self.assertIs(shows_widest_behind(known=LAMP, wanted=BACK, value=told), True)
        self.assertEqual(led(known=LAMP, tests=WHOLE), led(LAMP, WHOLE))
        told = same_behind(known=LAMP, part=TURN, other=SAME)
        self.assertIs(shows_same_behind(known=LAMP, part=TURN, other=SAME, value=told), True)
        told = proves_behind(known=LAMP, part=TURN, tests=WHOLE, m=1)
        self.assertIs(shows_proves_behind(known=LAMP, part=TURN, tests=WHOLE, m=1, value=told), True)


class TestFits(unittest.TestCase):
    def test_by_a_look(self):
        counted = {'fits': 0, 'apart': 0}
        lengths, sizes = set(), set()
        for known, part, wanted in some_chains(1, 700):
            told = fits_behind(part, known, wanted)
            plain = [Plain(device.text) for device in (part, known, wanted)]
            self.assertTrue(right_fits(*plain, told), (part.text, known.text, wanted.text, told))
            self.assertIs(shows_fits_behind(part, known, wanted, told), True)
            counted[told[0]] += 1
            sizes.add((len(part), len(known)))
            lengths.add((told[0], len(told[1])))
        self.assertGreater(min(counted.values()), 80, counted)
        self.assertEqual(sizes, set(itertools.product((1, 2, 3, 4), repeat=2)))
        self.assertTrue({('apart', 1), ('apart', 2), ('apart', 3), ('apart', 4), ('fits', 1), ('fits', 4)} <= lengths)

    def test_all_short_walks(self):
        for known, part, wanted in some_chains(2, 120):
            told = fits_behind(part, known, wanted)
            plain = [Plain(device.text) for device in (known, part, wanted)]
            for walk in walks_to(wanted.calls, {1: 10, 2: 6, 3: 4}[len(wanted.calls)]):
                fits = both(plain[0], plain[1], walk) == plain[2].heard(walk)
                if told[0] == 'fits' or len(walk) < len(told[1]):
                    self.assertTrue(fits)
                elif walk == told[1]:
                    self.assertFalse(fits)

    def test_any_values(self):
        for wanted in (BACK, LAMP):
            told = fits_behind(TURN, LAMP, wanted)
            for value in any_values() + [0, 1, (), 'fits', ('fits',), ('apart',), ('fits', ()), ('apart', ()), ['a'], ('a', 'a')]:
                self.assertIs(shows_fits_behind(TURN, LAMP, wanted, value), same(value, told))
                self.assertIs(shows_fits_behind(TURN, LAMP, wanted, told + (value,)), False)
                for at in range(2):
                    changed = told[:at] + (value,) + told[at + 1:]
                    self.assertIs(shows_fits_behind(TURN, LAMP, wanted, changed), same(changed, told))
        for walk, right in ((('b',), True), (('a',), True), (('a', 'b'), False), ((), False), (('c',), False)):
            self.assertIs(shows_fits_behind(TURN, LAMP, LAMP, ('apart', walk)), right)

    def test_what_is_right_but_for_one_part(self):
        counted = {True: 0, False: 0}
        for turn, (known, part, wanted) in enumerate([(LAMP, TURN, BACK), (LAMP, TURN, LAMP), *some_chains(3, 150)]):
            plain = [Plain(device.text) for device in (part, known, wanted)]
            for value in some_variants(fits_behind(part, known, wanted), 60, turn):
                right = right_fits(*plain, value)
                self.assertIs(shows_fits_behind(part, known, wanted, value), right)
                counted[right] += 1
        self.assertGreater(counted[True], 5)
        self.assertGreater(counted[False], 5000)


class TestWidest(Raising, unittest.TestCase):
    def some_pairs(self, seed, many):
        for known, _, wanted in some_chains(seed, many):
            yield known, wanted
        rnd = random.Random(seed)
        for turn in range(many // 3):
            # All answers are alike: there are many lots, and nothing is ever answered otherwise.
            calls, between, answers = words_for(rnd, turn)
            wanted = random_text(rnd, calls, answers[:1] * 2, rnd.randint(1, 3)).split('\n')
            wanted[1] = ' '.join(['answers', *answers])
            yield Device(random_text(rnd, calls, between, rnd.randint(1, 3))), Device('\n'.join(wanted))

    def test_by_a_look(self):
        counted = {'widest': 0, 'never': 0}
        lots = set()
        for known, wanted in self.some_pairs(4, 500):
            plain = Plain(known.text), Plain(wanted.text)
            rows = look_at_widest(*plain)
            if rows is not None and len({row[0] for row in rows}) > 60:
                self.assert_tells(Wide, 60, widest_behind, known, wanted)
                self.assert_tells(Wide, 60, shows_widest_behind, known, wanted, ('widest', rows))
                continue
            told = widest_behind(known, wanted)
            self.assertTrue(right_widest(*plain, told), (known.text, wanted.text, told))
            self.assertIs(shows_widest_behind(known, wanted, told), True)
            counted[told[0]] += 1
            if told[0] == 'widest':
                lots.add(len({row[0] for row in told[1]}))
        self.assertGreater(min(counted.values()), 150, counted)
        self.assertTrue(set(range(1, 10)) <= lots, lots)

    def test_60_and_61_lots(self):
        told = widest_behind(*SIXTY)
        self.assertEqual(len({row[0] for row in told[1]}), 60)
        self.assertTrue(right_widest(*[Plain(device.text) for device in SIXTY], told))
        self.assertIs(shows_widest_behind(*SIXTY, told), True)
        rows = look_at_widest(*[Plain(device.text) for device in ONE_MORE])
        self.assertEqual(len({row[0] for row in rows}), 61)
        self.assert_tells(Wide, 60, widest_behind, *ONE_MORE)
        for value in (None, ('widest', rows), ('never', (), ())):
            self.assert_tells(Wide, 60, shows_widest_behind, *ONE_MORE, value)

    def test_many_lots_and_two_such_walks(self):
        # Wherever two such walks are, it is not too wide.
        known, wanted = ONE_MORE
        counted = 0
        for state, call in itertools.product(wanted.states, wanted.calls):
            turned = wanted.turned(state, call, 'y', wanted.row(state, call)[1])
            told = widest_behind(known, turned)
            self.assertEqual(told[0], 'never')
            self.assertIs(shows_widest_behind(known, turned, told), True)
            counted += 1
        self.assertEqual(counted, 12)

    def test_each_part_of_one_and_two_states(self):
        """Those that fit are just those that answer as the rows tell; none fits where it is never so."""
        counted = {'widest': [0, 0], 'never': [0, 0]}
        for known, wanted in self.some_pairs(5, 40):
            plain = Plain(known.text), Plain(wanted.text)
            rows = look_at_widest(*plain)
            if len(known.answers) + len(wanted.answers) > 5 or rows is not None and len({row[0] for row in rows}) > 60:
                continue
            told = widest_behind(known, wanted)
            lots = lots_behind(*plain, told[1]) if told[0] == 'widest' else None
            for many in (1, 2) if len(known.answers) + len(wanted.answers) == 4 else (1,):
                for part in all_devices(known.answers, wanted.answers, many):
                    first = firsts(part, *plain)
                    fits = levels(first, known.calls, fits_step(part, *plain))[1] is None
                    expected = told[0] == 'widest' and goes_by_rows(part, plain[0], told[1], lots)
                    self.assertEqual(fits, expected)
                    counted[told[0]][fits] += 1
        self.assertGreater(min(counted['widest']), 50, counted)
        self.assertEqual(counted['never'][1], 0)
        self.assertGreater(counted['never'][0], 50)

    def test_walks_of_any_number_of_calls(self):
        for walk, other, right in ((('a', 'a'), ('a', 'b'), True), (('a', 'b'), ('a', 'a'), True), (('a',), ('b',), False),
                                   (('a', 'a') * 40, ('a', 'b') * 40, False),
                                   (('a', 'a', 'b') + ('b',) * 50, ('a', 'b', 'a') + ('b',) * 50, True),
                                   (('b',) * 50 + ('a', 'a'), ('b',) * 50 + ('a', 'b'), True), (('a', 'a'), ('a', 'a'), False),
                                   (('b',) * 900 + ('a', 'b'), ('b',) * 900 + ('a', 'a'), True), (('a', 'a'), ['a', 'b'], False),
                                   (('a', 'a'), ('a', 'c'), False), ((), (), False), (('a', 'a'), ('a', 'b', 'b'), False),
                                   (['a', 'a'], ('a', 'b'), False), ('aa', 'ab', False), (('a', 'a'), None, False),
                                   (('a', 'a'), ('a', ('b',)), False)):
            self.assertIs(shows_widest_behind(LAMP, CALM, ('never', walk, other)), right, (walk[:5], other))
        self.assertIs(shows_widest_behind(LAMP, CALM, ('never', ('a', 'a'))), False)

    def test_any_values(self):
        for known, wanted in ((LAMP, BACK), (LAMP, CALM), (STEADY, STEADY), (RING, LAMP)):
            told = widest_behind(known, wanted)
            for value in any_values() + [0, 1, (), 'never', ('never',), ('widest',), ('never', (), ()), ('widest', ())]:
                self.assertIs(shows_widest_behind(known, wanted, value), False)
                self.assertIs(shows_widest_behind(known, wanted, told + (value,)), False)
                for at in range(len(told)):
                    changed = told[:at] + (value,) + told[at + 1:]
                    self.assertIs(shows_widest_behind(known, wanted, changed), same(changed, told))

    def test_what_is_right_but_for_one_part(self):
        counted = {True: 0, False: 0}
        for turn, (known, wanted) in enumerate([(LAMP, BACK), (LAMP, CALM), *self.some_pairs(6, 110)]):
            plain = Plain(known.text), Plain(wanted.text)
            rows = look_at_widest(*plain)
            if rows is not None and len({row[0] for row in rows}) > 60:
                continue
            for value in some_variants(widest_behind(known, wanted), 60, turn):
                right = right_widest(*plain, value)
                self.assertIs(shows_widest_behind(known, wanted, value), right, (known.text, wanted.text, value))
                counted[right] += 1
        self.assertGreater(counted[True], 50)
        self.assertGreater(counted[False], 5000)


class TestLed(Raising, unittest.TestCase):
    def test_by_a_look(self):
        counted = {True: 0, False: 0}
        rnd = random.Random(7)
        for turn in range(300):
            calls, between, answers = words_for(rnd, turn)
            known = Device(random_text(rnd, calls, between, rnd.randint(1, 4)))
            device = Device(random_text(rnd, calls, answers, rnd.randint(1, 3)))
            tests = asked(device, random_walks(rnd, calls, rnd.randint(0, 5), 4))
            text = text_led(Plain(known.text), tests)
            quarrel = first_quarrel(text.split('\n')[2:])
            if quarrel is not None:
                self.assert_tells(Quarrel, quarrel, led, known, tests)
            else:
                self.assertTrue(same(led(known, tests).text, text))
                self.assertIs(type(led(known, tests)), Tests)
            counted[quarrel is None] += 1
        self.assertGreater(min(counted.values()), 40, counted)

    def test_whole_and_parts(self):
        """Both together agree with tests just if the one behind agrees with these led; the numbers are the same."""
        counted = {True: 0, False: 0}
        rnd = random.Random(8)
        for known, part, tests in some_wholes(9, 150):
            said = Said(led(known, tests).text)
            for _ in range(5):
                other = Plain(random_text(rnd, part.calls, part.answers, rnd.randint(1, 4)))
                plain = Plain(known.text)
                agrees = all(both(plain, other, walk) == tuple(answer for _, answer in row)
                             for walk, row in zip(tests.walks, tests.rows))
                self.assertEqual(agrees, said.agrees(other))
                counted[agrees] += 1
            self.assertTrue(said.agrees(Plain(part.text)))
        self.assertGreater(min(counted.values()), 40, counted)

    def test_tests_that_quarrel_when_led(self):
        known = CALM.turned('i', 'b', 'x', 'i')
        for rows, numbers in (('test a x\ntest b y', (0, 1)), ('test a x a x\ntest b x\ntest b x b y', (0, 2)),
                              ('test a x\ntest a x b x\ntest b x b y', (1, 2))):
            tests = Tests('calls a b\nanswers x y\n' + rows)
            self.assert_tells(Quarrel, numbers, led, known, tests)
        # They are told twice if they are led to the same.
        told = led(known, Tests('calls a b\nanswers x y\ntest a x\ntest b x'))
        self.assertEqual(told.text, 'calls x y\nanswers x y\ntest x x\ntest x x')

    def test_sixty_tests_of_twelve_calls(self):
        rnd = random.Random(10)
        walks = tuple(tuple(rnd.choice('ab') for _ in range(2)) + ('a',) * 10 for _ in range(60))
        tests = tests_of(LAMP, TURN, walks)
        self.assertEqual(len(led(LAMP, tests)), 60)
        self.assertEqual(led(LAMP, Tests('calls a b\nanswers u v w')).text, 'calls x y\nanswers u v w')


class TestSame(unittest.TestCase):
    def some(self, seed, many):
        """Parts that do the same behind known, and such that do not."""
        rnd = random.Random(seed)
        for turn in range(many):
            calls, between, answers = words_for(rnd, turn)
            known = Device(random_text(rnd, calls, between, rnd.randint(1, 4)))
            part = Device(random_text(rnd, between, answers, rnd.randint(1, 4)))
            other = part
            for _ in range(turn % 4):
                state, call = rnd.choice(other.states), rnd.choice(between)
                other = other.turned(state, call, rnd.choice(answers), rnd.choice(other.states))
            yield known, part, other

    def test_by_a_look(self):
        counted = {'alike': 0, 'apart': 0}
        lengths = set()
        hidden = 0
        for known, part, other in self.some(11, 700):
            told = same_behind(known, part, other)
            plain = [Plain(device.text) for device in (known, part, other)]
            self.assertTrue(right_same(*plain, told), (known.text, part.text, other.text, told))
            self.assertIs(shows_same_behind(known, part, other, told), True)
            counted[told[0]] += 1
            lengths.add((told[0], len(told[1])))
            # Parts that are not alike may do the same behind a known part.
            hidden += told[0] == 'alike' and first_parting(*plain[1:]) is not None
        self.assertGreater(min(counted.values()), 150, counted)
        self.assertGreater(hidden, 20)
        self.assertTrue({('apart', 1), ('apart', 2), ('apart', 3), ('apart', 4), ('alike', 1), ('alike', 6)} <= lengths)

    def test_all_short_walks(self):
        for known, part, other in self.some(12, 120):
            told = same_behind(known, part, other)
            plain = [Plain(device.text) for device in (known, part, other)]
            for walk in walks_to(known.calls, {1: 10, 2: 6, 3: 4}[len(known.calls)]):
                alike_there = both(plain[0], plain[1], walk) == both(plain[0], plain[2], walk)
                if told[0] == 'alike' or len(walk) < len(told[1]):
                    self.assertTrue(alike_there)
                elif walk == told[1]:
                    self.assertFalse(alike_there)

    def test_behind_what_tells_all_it_is_alike(self):
        for one, other in itertools.product((LAMP, LAMP.begun('q'), RING, STEADY, CALM, BACK), repeat=2):
            turned = [Device(device.text.replace('calls a b', 'calls x y').replace(' a ', ' x ').replace(' b ', ' y '))
                      for device in (one, other)]
            known = Device('calls x y\nanswers x y\nstates o\nrow o x x o\nrow o y y o')
            told, own = same_behind(known, *turned), alike(*turned)
            self.assertEqual(told[0], own[0])
            self.assertEqual(told[1] if own[0] == 'apart' else tuple(triple[1:] for triple in told[1]), own[1])

    def test_any_values(self):
        for other in (TURN, SAME, TELLING):
            told = same_behind(LAMP, TURN, other)
            for value in any_values() + [0, 1, (), 'alike', ('alike',), ('apart',), ('alike', ()), ('apart', ())]:
                self.assertIs(shows_same_behind(LAMP, TURN, other, value), same(value, told))
                self.assertIs(shows_same_behind(LAMP, TURN, other, told + (value,)), False)
                for at in range(2):
                    changed = told[:at] + (value,) + told[at + 1:]
                    self.assertIs(shows_same_behind(LAMP, TURN, other, changed), same(changed, told))

    def test_what_is_right_but_for_one_part(self):
        counted = {True: 0, False: 0}
        for turn, (known, part, other) in enumerate([(LAMP, TURN, TURN), (LAMP, TURN, SAME), *self.some(13, 150)]):
            plain = [Plain(device.text) for device in (known, part, other)]
            for value in some_variants(same_behind(known, part, other), 60, turn):
                right = right_same(*plain, value)
                self.assertIs(shows_same_behind(known, part, other, value), right)
                counted[right] += 1
        self.assertGreater(counted[True], 5)
        self.assertGreater(counted[False], 5000)


class TestProves(Raising, unittest.TestCase):
    def test_by_all_parts(self):
        counted = {'proved': 0, 'passes': 0}
        fewer = hidden = 0
        for known, part, tests in some_wholes(14, 250):
            plain = Plain(known.text), Plain(part.text)
            said = Said(text_led(plain[0], tests))
            for m in numbers_for(part):
                rows = list(rows_agreeing(said, m))
                proved = not any(may_differ(*plain, one) for one in rows)
                try:
                    told = proves_behind(known, part, tests, m)
                except Long as long:
                    self.assertEqual((long.value, proved), (600, True))
                    self.assertRaises(Long, sortings, led(known, tests), m)
                    continue
                self.assertEqual(told[0], 'proved' if proved else 'passes')
                self.assertTrue(right_proves(*plain, said, m, proved, told), (known.text, part.text, tests.text, m, told))
                self.assertIs(shows_proves_behind(known, part, tests, m, told), True)
                counted[told[0]] += 1
                fewer += proved and not rows
                # What is never heard of the part is not proved by itself.
                hidden += proved and bool(rows) and m >= len(part) and proves_itself(part, said, m) == 'passes'
        self.assertGreater(min(counted.values()), 100, counted)
        self.assertGreater(fewer, 10)
        self.assertGreater(hidden, 30)

    def test_each_part_of_one_and_two_states(self):
        """By the words: each part that agrees with the led tests does the same behind known, or it is not proved."""
        counted = {True: 0, False: 0}
        for known, part, tests in some_wholes(15, 60):
            if len(part.calls) + len(part.answers) > 4:
                continue
            plain = Plain(known.text), Plain(part.text)
            said = Said(text_led(plain[0], tests))
            others = [other for many in (1, 2) for other in all_devices(part.calls, part.answers, many) if said.agrees(other)]
            proved = all(levels(firsts(*plain, other), known.calls, same_step(*plain, other))[1] is None for other in others)
            self.assertEqual(proves_behind(known, part, tests, 2)[0], 'proved' if proved else 'passes')
            counted[proved] += 1
        self.assertGreater(min(counted.values()), 10, counted)

    def test_behind_what_tells_all_it_is_proves(self):
        for device, m in ((LAMP, 2), (LAMP, 3), (RING, 3), (STEADY, 2), (BACK, 2)):
            part = Device(device.text.replace('calls a b', 'calls x y').replace(' a ', ' x ').replace(' b ', ' y '))
            for length in (1, 2, 3, 4):
                walks = tuple(itertools.product('xy', repeat=length))
                tests = asked(part, walks)
                self.assertEqual(proves_behind(ECHO, part, tests, m)[0], proves(part, tests, m)[0])

    def test_less_than_the_states_of_part(self):
        # No part of one state agrees: it is proved, too.
        whole = tests_of(ECHO, TELLING, (('x', 'x'), ('y', 'y')))
        told = proves_behind(ECHO, TELLING, whole, 1)
        self.assertEqual(told[0], 'proved')
        self.assertIs(shows_proves_behind(ECHO, TELLING, whole, 1, told), True)
        paper = ('cases', ('x',), (('torn', (), ('x',), ('x',)),))
        self.assertIs(shows_proves_behind(ECHO, TELLING, whole, 1, ('proved', paper)), True)
        self.assertIs(shows_proves_behind(ECHO, TELLING, whole, 2, ('proved', paper)), False)
        # Parts of less states that do the same behind known are enough.
        whole = tests_of(CALM, TURN, (('a', 'b'), ('b', 'a')))
        told = proves_behind(CALM, TURN, whole, 1)
        self.assertEqual(told[0], 'proved')

    def test_600_sortings(self):
        known, part, walks = SIX_HUNDRED
        tests = tests_of(known, part, walks)
        self.assertEqual(sortings(led(known, tests), 3), 600)
        told = proves_behind(known, part, tests, 3)
        self.assertEqual(told[0], 'proved')
        self.assertIs(shows_proves_behind(known, part, tests, 3, told), True)
        self.assertIs(shows_proves_behind(known, part, tests, 2, told), False)

    def test_long(self):
        for length, m, word in ((5, 3, 'proved'), (5, 4, None), (4, 4, 'passes')):
            tests = tests_of(ECHO, TELLING, tuple(itertools.product('xy', repeat=length)))
            if word is None:
                self.assertRaises(Long, sortings, led(ECHO, tests), m)
                self.assert_tells(Long, 600, proves_behind, ECHO, TELLING, tests, m)
                for value in (None, ('proved', ()), ('passes', TELLING.text, ('x',)), ('proved', ('alike', ((0, 'o', 'p'),)))):
                    self.assert_tells(Long, 600, shows_proves_behind, ECHO, TELLING, tests, m, value)
            else:
                told = proves_behind(ECHO, TELLING, tests, m)
                self.assertEqual(told[0], word)
                self.assertIs(shows_proves_behind(ECHO, TELLING, tests, m, told), True)
        # It is not too long where some part passes.
        weak = tests_of(ECHO, SAME, tuple(itertools.product('xy', repeat=3)))
        self.assertRaises(Long, sortings, led(ECHO, weak), 4)
        self.assertEqual(proves_behind(ECHO, SAME, weak, 4)[0], 'passes')

    def test_walks_of_any_number_of_calls(self):
        # SAME passes these tests, and is heard at each x.
        tests = tests_of(LAMP, TURN, ())
        for walk, right in ((('a',), True), (('b',) * 99, True), ((), False), (('a',) * 999, True), (['a'], False), ('a', False),
                            (('a', 'c'), False), (('a', None), False), (None, False), (('x',), False)):
            self.assertIs(shows_proves_behind(LAMP, TURN, tests, 1, ('passes', SAME.text, walk)), right, walk and walk[:3])
        later = Device('calls x y\nanswers x y\nstates o p\nrow o x y o\nrow o y x p\nrow p y x o\nrow p x x p')
        for walk, right in ((('a',) * 3, True), (('b',) * 30, False), (('b',) * 31 + ('a',), True), (('a', 'b') * 15, True),
                            (('a',), False), (('a', 'a'), False)):
            self.assertIs(shows_proves_behind(LAMP, TURN, tests, 2, ('passes', later.text, walk)), right)
            self.assertIs(shows_proves_behind(LAMP, TURN, tests, 1, ('passes', later.text, walk)), False)

    def test_any_values(self):
        for m in (1, 2):
            told = proves_behind(LAMP, TURN, WHOLE, m)
            for value in any_values() + [0, 1, (), 'proved', ('proved',), ('passes',), ('proved', ()), ('passes', '', ())]:
                self.assertIs(shows_proves_behind(LAMP, TURN, WHOLE, m, value), False)
                self.assertIs(shows_proves_behind(LAMP, TURN, WHOLE, m, told + (value,)), False)
                for at in range(len(told)):
                    changed = told[:at] + (value,) + told[at + 1:]
                    right = right_proves(Plain(LAMP.text), Plain(TURN.text), Said(led(LAMP, WHOLE).text), m, m == 1, changed)
                    self.assertIs(shows_proves_behind(LAMP, TURN, WHOLE, m, changed), right)

    def test_what_is_right_but_for_one_part(self):
        rnd = random.Random(16)
        counted = {True: 0, False: 0}
        for known, part, tests in [(LAMP, TURN, WHOLE), (LAMP, SAME, ENOUGH), (LAMP, SAME, FEW), *some_wholes(17, 60)]:
            plain = Plain(known.text), Plain(part.text)
            said = Said(text_led(plain[0], tests))
            for m in numbers_for(part)[:3]:
                proved = not any(may_differ(*plain, one) for one in rows_agreeing(said, m))
                try:
                    told = proves_behind(known, part, tests, m)
                except Long:
                    continue
                if len(repr(told)) > 2000:
                    continue
                for value in some_variants(told, 60, rnd.random()):
                    right = right_proves(*plain, said, m, proved, value)
                    self.assertIs(shows_proves_behind(known, part, tests, m, value), right, (known.text, part.text, value))
                    counted[right] += 1
        self.assertGreater(counted[True], 100)
        self.assertGreater(counted[False], 5000)

    def test_papers_that_others_made(self):
        rnd = random.Random(18)
        counted = {True: 0, False: 0}
        for known, part, tests in [(LAMP, TURN, WHOLE), *some_wholes(19, 120)]:
            plain = Plain(known.text), Plain(part.text)
            said = Said(text_led(plain[0], tests))
            if len(said.nodes) > 14:
                continue
            for m in numbers_for(part)[:3]:
                rows = list(rows_agreeing(said, m))
                if len(rows) > 600 or any(may_differ(*plain, one) for one in rows):
                    continue
                for _ in range(3):
                    value = ('proved', any_paper(rnd, said, *plain, m))
                    if len(repr(value)) > 3000:
                        continue
                    self.assertTrue(right_proves(*plain, said, m, True, value))
                    self.assertIs(shows_proves_behind(known, part, tests, m, value), True)
                    for other in some_variants(value, 30, rnd.random()):
                        right = right_proves(*plain, said, m, True, other)
                        self.assertIs(shows_proves_behind(known, part, tests, m, other), right)
                        counted[right] += 1
        self.assertGreater(counted[True], 50)
        self.assertGreater(counted[False], 2000)

    def test_papers_that_forget_the_answers(self):
        counted = {(True, True): 0, (True, False): 0, (False, False): 0}
        for known, part, tests in some_wholes(23, 200):
            plain = Plain(known.text), Plain(part.text)
            said = Said(text_led(plain[0], tests))
            if len(said.nodes) > 10:
                continue
            for m in numbers_for(part)[:3]:
                rows = list(rows_agreeing(said, m))
                proved = not any(may_differ(*plain, one) for one in rows)
                paper = careless_paper(said, *plain, m)
                if paper is None or proved and len(rows) > 600 or len(repr(paper)) > 50000:
                    continue
                right = right_proves(*plain, said, m, proved, ('proved', paper))
                self.assertIs(shows_proves_behind(known, part, tests, m, ('proved', paper)), right)
                counted[proved, right] += 1
        self.assertGreater(min(counted.values()), 5, counted)

    def test_ends(self):
        paper = ('cases', ('x',), (('cases', ('y',), (('alike', ((0, 'p', 'o'), (0, 'q', 'o'))),)),))
        tests = tests_of(LAMP, TURN, (('a',), ('b',)))
        self.assertIs(shows_proves_behind(LAMP, TURN, tests, 1, ('proved', paper)), True)
        for triples, right in ((((0, 'p', 'o'), (0, 'q', 'o')), True), (((0, 'p', 'o'),), False), (((0, 'q', 'o'),), False),
                               (((0, 'q', 'o'), (0, 'p', 'o')), False), (((0, 'p', 'o'), (0, 'p', 'o'), (0, 'q', 'o')), False),
                               (((False, 'p', 'o'), (False, 'q', 'o')), False), (((0, 'p', 'o'), (1, 'q', 'o')), False), ((), False),
                               ([(0, 'p', 'o'), (0, 'q', 'o')], False), (((0, 'o', 'p'), (0, 'o', 'q')), False)):
            paper = ('cases', ('x',), (('cases', ('y',), (('alike', triples),)),))
            self.assertIs(shows_proves_behind(LAMP, TURN, tests, 1, ('proved', paper)), right)
            # Without saying in which class the node of y is, it is none.
            paper = ('cases', ('x',), (('alike', triples),))
            self.assertIs(shows_proves_behind(LAMP, TURN, tests, 1, ('proved', paper)), False)
        # More triples than are come to may stand.
        spare = Device(TURN.text.replace('states o', 'states o r') + '\nrow r x y o\nrow r y x r')
        paper = ('cases', ('x',), (('cases', ('y',), (('alike', ((0, 'p', 'o'), (0, 'p', 'r'), (0, 'q', 'o'), (0, 'q', 'r'))),)),))
        self.assertIs(shows_proves_behind(LAMP, spare, tests, 1, ('proved', paper)), True)


def proves_itself(part, said, m):
    """Whether the led tests prove the part by itself."""
    text = '\n'.join([' '.join(['calls', *said.calls]), ' '.join(['answers', *said.answers])] + [
        ' '.join(['test', *itertools.chain(*zip(walk, answers))]) for walk, answers in said.rows])
    try:
        return proves(part, Tests(text), m)[0]
    except (Long, ValueError):
        return 'long'


class TestGuarantees(unittest.TestCase):
    def test_fewer_states_and_further_tests(self):
        rnd = random.Random(20)
        counted = [0, 0]
        for known, part, tests in some_wholes(21, 120):
            for m in numbers_for(part):
                try:
                    if proves_behind(known, part, tests, m)[0] != 'proved':
                        continue
                except Long:
                    continue
                for fewer in range(1, m):
                    self.assertEqual(proves_behind(known, part, tests, fewer)[0], 'proved')
                    counted[0] += 1
                for walk in random_walks(rnd, known.calls, 2, 6):
                    row = tuple(zip(walk, part.heard(known.heard(walk))))
                    self.assertEqual(proves_behind(known, part, tests.more(row), m)[0], 'proved')
                    counted[1] += 1
        self.assertGreater(min(counted), 60)

    NAMES = {'calls': {'a': 'fits', 'b': 'x'}, 'answers': {'x': 'b', 'y': 'alike'},
             'states': {'p': 'z', 'q': 'a', 'r': 's1', 's': 's0', 't': 't', 'i': 'u', 'o': 'apart'}}
    BEHIND = {'calls': {'x': 'b', 'y': 'alike'}, 'answers': {'x': 'never', 'y': 'b'}, 'states': NAMES['states']}
    WANTED = {'calls': NAMES['calls'], 'answers': BEHIND['answers'], 'states': NAMES['states']}

    def test_other_names(self):
        states = self.NAMES['states']
        for known, wanted in itertools.product((LAMP, RING, STEADY, CALM, BACK), repeat=2):
            turned = Device(renamed(known.text, self.NAMES)), Device(renamed(wanted.text, self.WANTED))
            own, told = widest_behind(known, wanted), widest_behind(*turned)
            self.assertEqual(told[0], own[0])
            if own[0] == 'widest':
                rows = [(tuple(sorted((states[state], states[goal]) for state, goal in lot)), self.NAMES['answers'][word],
                         self.BEHIND['answers'][reply]) for lot, word, reply in own[1]]
                self.assertEqual(told[1], tuple(sorted(rows)))
            for part in (TURN, SAME, TELLING):
                behind = Device(renamed(part.text, self.BEHIND))
                self.assertEqual(fits_behind(behind, *turned)[0], fits_behind(part, known, wanted)[0])
                other = Device(renamed(TURN.text, self.BEHIND))
                self.assertEqual(same_behind(turned[0], behind, other)[0], same_behind(known, part, TURN)[0])
                tests = tests_of(known, part, tuple(itertools.product('ab', repeat=3)))
                for m in (1, 2, 3):
                    own = proves_behind(known, part, tests, m)[0]
                    whole = Tests(renamed(tests.text, self.WANTED))
                    self.assertEqual(proves_behind(turned[0], behind, whole, m)[0], own)
                self.assertEqual(led(turned[0], whole).text, renamed(led(known, tests).text, self.BEHIND))

    def test_nothing_is_changed(self):
        part, known, wanted, tests = Device(TURN.text), Device(LAMP.text), Device(BACK.text), Tests(WHOLE.text)
        for _ in range(2):
            self.assertTrue(same(fits_behind(part, known, wanted), fits_behind(TURN, LAMP, BACK)))
            self.assertTrue(same(widest_behind(known, wanted), widest_behind(LAMP, BACK)))
            self.assertTrue(same(same_behind(known, part, part), same_behind(LAMP, TURN, TURN)))
            self.assertTrue(same(proves_behind(known, part, tests, 2), proves_behind(LAMP, TURN, WHOLE, 2)))
            self.assertEqual(led(known, tests), led(LAMP, WHOLE))
            self.assertEqual((part, known, wanted, tests), (TURN, LAMP, BACK, WHOLE))

    def test_together(self):
        """The look puts two parts together so that they are heard as they are one behind the other."""
        for known, part, _ in some_chains(22, 40, 2):
            plain = Plain(known.text), Plain(part.text)
            whole = Plain(together(*plain))
            for walk in walks_to(known.calls, 4):
                self.assertEqual(whole.heard(walk), both(*plain, walk))


if __name__ == '__main__':
    unittest.main()
