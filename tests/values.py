"""Values of any kind, changed values, and devices and tests that many tests take."""

import random

from toldboxes.devices import Device
from toldboxes.forms import least
from toldboxes.records import Tests, asked
from toldboxes.watches import Watch

LAMP = Device('calls a b\nanswers x y\nstates p q\nrow p a x q\nrow p b y p\nrow q a y p\nrow q b y q')
THREE = Device(
    'calls a b\nanswers x y\nstates u v w\nrow u a x v\nrow u b y w\n'
    'row v a y w\nrow v b y v\nrow w a x v\nrow w b y u'
)
RING = Device('calls a b\nanswers x y\nstates r s t\nrow r a x s\nrow s a x t\nrow t a y r\n'
              'row r b x r\nrow s b x r\nrow t b x t')
STEADY = Device('calls a b\nanswers x y\nstates s\nrow s a x s\nrow s b x s')
# Each call exchanges states, and none brings two together.
TURNING = Device('calls a b\nanswers x y\nstates p q r s\nrow p a x q\nrow q a y r\nrow r a x s\nrow s a x p\n'
                 'row p b x q\nrow q b x p\nrow r b y r\nrow s b y s')
FAR = Device('calls a\nanswers x y\nstates p q\nrow p a x p\nrow q a y q')
FEW = Tests('calls a b\nanswers x y\ntest a x a y\ntest b y a x')
ENOUGH = asked(LAMP, (('b', 'a'), ('a', 'a', 'a'), ('a', 'b', 'a')))
MENU = (('b', 'a'), ('a', 'a', 'a'), ('a', 'b', 'a'), ('b', 'a', 'a', 'a', 'b', 'a'))
# Tests and numbers by which they have 600 sortings, and 601.
SIX_HUNDRED = (
    (Tests('calls a b\nanswers x y\ntest b x b x\ntest a x a x b x\ntest b x a x\ntest a x a x a y b x'), 4),
    (Tests('calls a b c\nanswers x y\ntest c x c x b x a x\ntest a x b x b x\ntest c x c x b x\ntest c x a x'), 3),
)
ONE_MORE = (
    (Tests('calls a b\nanswers x y\ntest b x a x b x b x\ntest a y b x a x\ntest a y a x'), 4),
    (Tests('calls a b c\nanswers x y\ntest c x c x a y\ntest b x a x b x\ntest a y c x b x'), 3),
)
# Other calls and answers than the lamp has, or in another sequence.
OTHER_HEADS = (
    'calls b a\nanswers x y', 'calls a b\nanswers y x', 'calls a\nanswers x y', 'calls a b c\nanswers x y',
    'calls a b\nanswers x y z', 'calls a z\nanswers x y',
)


def deep(leaf, kind):
    """A value nested 59 deep around its leaf."""
    value = leaf
    for _ in range(59):
        value = kind(value)
    return value


def any_values():
    """Values of all kinds of section 2: none of them is a name, a walk, a text or a number that is asked for."""
    return [
        -1, 99, 123456789, -123456789, True, False, None, '', ' ', 'zz', 'A', 'a ', 'states', 'a\n', '0', '\n',
        'nine99999', [], ['a'], [()], [('a', 'x')], {}, {'a': 'x'}, {0: ()}, {'a': [{}]}, (0,), (True,), (None,),
        ([],), ({},), ('zz',), (('zz',),), (('a', 'x', 'a'),), (['a', 'x'],), ((('a', 'x'),), 0), ('a', 0), ('a', []),
        ((['a'], 'x'),), (('a', ['x']),), (('a', {}),), ({'a': 'x'},),
        LAMP, THREE, FEW, ENOUGH, (LAMP,), (FEW, LAMP), [LAMP], {'a': FEW}, ((LAMP, 'x'),), (('a', FEW),),
        deep('a', lambda value: (value,)), deep('a', lambda value: [value]), deep((), lambda value: {'a': value}),
        deep('a', lambda value: ('a', value)),
    ]


def bad_menus():
    """What is no menu of a device with the calls a and b."""
    walks = (('a',), ('b',), ('a', 'a'), ('a', 'b'), ('b', 'a'), ('b', 'b'), ('a', 'a', 'a'))
    return any_values() + [
        0, 1, 'a', (), ('a',), ('a', 'b'), [('a',)], (['a'],), walks, (('a',), ()), ((),), (('a',), ('a',)), (('a',) * 13,),
        (('a',), ('c',)), (('a',), ('b', 0)), (('a',), ('b', ('a',))), (('a',), None), walks[:3] + walks[2:3],
        ((('a',),),), ('ab',), (('ab',),),
    ]


def bad_lots():
    """What is no lot of the lamp."""
    row = ('q', 'a')
    rows = (row, ('q', 'b'), ('p', 'a'), ('p', 'b'))
    return any_values() + [
        (), 0, 1, 'q', row, [row], ([*row],), (row, row), rows, (row, ('q', 'b'), row), (row, ()), (('a', 'q'),),
        (('q',),), (('q', 'a', 'x'),), (('z', 'a'),), (('q', 'c'),), (('q', 0),), ((0, 'a'),), (row, None), ((row,),),
        (('q', 'a '),), (('q', ('a',)),), ((('q',), 'a'),), ('qa',), (row, ('q', ['a'])),
    ]


def bad_logs():
    """What is no log of a device with the calls a and b and the answers x and y."""
    pair = ('a', 'x')
    return any_values() + [
        0, 1, 'a', pair, [pair], ([*pair],), (pair,) * 25, (pair, ()), (pair, ('a',)), (pair, ('a', 'x', 'a')),
        (('x', 'a'),), (('a', 'z'),), (('c', 'x'),), (('a', 0),), ((0, 'x'),), (pair, None), ((pair,),), ('ax',),
        (('a', ('x',)),), ((('a',), 'x'),), (pair, ('b', 'x ')),
    ]


def bad_devices():
    """What is no tuple of two to four devices with the same calls and answers."""
    others = [
        (), (LAMP,), (LAMP,) * 5, [LAMP, LAMP], LAMP, (LAMP, LAMP.text), (LAMP, None), (LAMP, (LAMP,)), (FEW, FEW),
        (LAMP, FEW), (LAMP, RING, FEW), (LAMP, FAR), (FAR, LAMP), (LAMP, LAMP, FAR), (LAMP, RING, LAMP, FAR), (0, 1),
        ('a', 'b'), {LAMP.text: LAMP, 'b': RING},
    ]
    for old, new in (('calls a b', 'calls b a'), ('answers x y', 'answers y x'), ('answers x y', 'answers x y z')):
        others += [(LAMP, Device(LAMP.text.replace(old, new))), (Device(LAMP.text.replace(old, new)), LAMP, LAMP)]
    return any_values() + others


def variants(value, stand_ins):
    """What is right but for one part of it, at any depth."""
    yield from stand_ins
    if isinstance(value, tuple):
        yield list(value)
        yield value + ('a',)
        yield value + value
        for at, part in enumerate(value):
            yield value[:at] + value[at + 1:]
            yield value[:at] + (part,) + value[at:]
            if at > 0:
                yield value[:at - 1] + (part, value[at - 1]) + value[at + 1:]
            for changed in variants(part, stand_ins):
                yield value[:at] + (changed,) + value[at + 1:]
    elif isinstance(value, bool):
        yield int(value)
    elif isinstance(value, int):
        yield from (value + 1, value - 1, str(value), [value])
        if value in (0, 1):
            yield bool(value)
    elif isinstance(value, str):
        yield from (value + ' ', value + '\n', value[:-1], value.upper(), [value], (value,), tuple(value))
        lines = value.split('\n')
        if len(lines) > 1:
            for at, line in enumerate(lines):
                yield '\n'.join(lines[:at] + lines[at + 1:])
                yield '\n'.join(lines[:at] + [line] + lines[at:])
                words = line.split(' ')
                for word in range(len(words)):
                    for other in ('x', 'y', 'a', 'b', 'p', 'q', 's0', 's1', 's2'):
                        changed = words[:word] + [other] + words[word + 1:]
                        yield '\n'.join(lines[:at] + [' '.join(changed)] + lines[at + 1:])


STAND_INS = (
    None, 0, 1, 2, True, False, 'a', 'b', 'x', 'p', 'q', 'zz', 'alike', 'torn', 'cases', (), ('a',), ('b',),
    ('a', 'a'), ('a', 'b'), ('p', 'q'), ('p',), [], {}, LAMP, FEW, (LAMP,),
)


def some_variants(value, many, seed):
    """At most so many of the variants of a value."""
    found = list(variants(value, STAND_INS))
    return random.Random(seed).sample(found, many) if len(found) > many else found


def random_text(rnd, calls, answers, many):
    """The text of any device with so many states; lines of rows and states in any sequence."""
    states = rnd.sample(['p', 'q', 'row', 's0', 's1', 's2', 'x1'], many)
    rows = [f'row {s} {c} {rnd.choice(answers)} {rnd.choice(states)}' for s in states for c in calls]
    rnd.shuffle(rows)
    heads = [' '.join(['calls', *calls]), ' '.join(['answers', *answers]), ' '.join(['states', *states])]
    return '\n'.join(heads + rows)


def least_devices(seed, many, most=4):
    """Devices in least form, with any names, states and lines in any sequence."""
    rnd = random.Random(seed)
    while many > 0:
        calls = rnd.sample(['a', 'b', 'c'], rnd.randint(1, 3))
        answers = rnd.sample(['x', 'y', 'z'], rnd.choice((2, 2, 3)))
        if many % 3:
            states = rnd.sample(['p', 'q', 'r', 's'], rnd.randint(1, most))
            if many % 3 == 1:
                # Calls that only exchange states make it likely that these never come together.
                goals = {call: rnd.sample(states, len(states)) for call in calls}
                rows = [f'row {s} {c} {rnd.choice(answers)} {goals[c][at]}' for c in calls for at, s in enumerate(states)]
            else:
                # Few goals and answers make it likely that nothing tells which state it was.
                goals = {call: rnd.sample(states * 2, 2) for call in calls}
                rows = [f'row {s} {c} {rnd.choice(answers[:1] * 3 + answers)} {rnd.choice(goals[c])}'
                        for c in calls for s in states]
            heads = [' '.join([head, *names]) for head, names in (('calls', calls), ('answers', answers), ('states', states))]
            device = Device('\n'.join(heads + rows))
        else:
            device = Device(random_text(rnd, calls, answers, rnd.randint(1, most)))
        if len(device) == len(least(device)):
            many -= 1
            yield device


def random_walks(rnd, calls, many, longest):
    """Any walks of one call or more."""
    return tuple([tuple(rnd.choice(calls) for _ in range(rnd.randint(1, longest))) for _ in range(many)])


def renamed(text, names):
    """A text whose words, but for the first ones of the lines, are exchanged by the dict of each line's kind."""
    lines = []
    for line in text.split('\n'):
        head, *words = line.split(' ')
        if head == 'row':
            kinds = ('states', 'calls', 'answers', 'states')
        elif head == 'test':
            kinds = ('calls', 'answers') * len(words)
        else:
            kinds = (head,) * len(words)
        lines.append(' '.join([head] + [names[kind][word] for kind, word in zip(kinds, words)]))
    return '\n'.join(lines)


WATCH = Watch('calls a b\nanswers x y\nmarks idle on\nstep idle a x on\nstep idle a y broken\nstep on a y idle\n'
              'step on a x broken')
# Behind b x nothing can break it any more; behind a x a y it is at the mark third.
HALF = Watch('calls a b\nanswers x y\nmarks first calm third\nstep first b x calm\nstep first a x third\n'
             'step third a y broken\nstep third b x first')
CALM = Watch('calls a b\nanswers x y\nmarks one')


def watch_text(rnd, calls, answers, many, steps, broken):
    """The text of any watch with so many marks and steps; broken is how likely a step breaks it."""
    marks = rnd.sample(['i', 'on', 'step', 'marks', 'm1', 'a', 'x'], many)
    places = [(mark, call, answer) for mark in marks for call in calls for answer in answers]
    lines = [' '.join(['calls', *calls]), ' '.join(['answers', *answers]), ' '.join(['marks', *marks])]
    for place in rnd.sample(places, min(steps, len(places))):
        lines.append(' '.join(['step', *place, 'broken' if rnd.random() < broken else rnd.choice(marks)]))
    return '\n'.join(lines)
