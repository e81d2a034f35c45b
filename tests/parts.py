"""Known parts, unknown ones and what is wanted, for the tests of missing parts; and looks at them."""

import itertools
import random

from looks import Plain, same
from toldboxes.devices import Device
from values import random_text


def levels(first, calls, step):
    """All that is come to from first, and the length of the shortest walk by which step tells None, or None."""
    found, level = {first}, {first}
    length = 0
    while level:
        length += 1
        behind = {step(place, call) for place in level for call in calls}
        if None in behind:
            return found, length
        level = behind - found
        found |= behind
    return found, None


def right_told(words, first, calls, step, value):
    """Whether any value is ascending all that is come to, or any walk, as short as can be, by which step tells None."""
    found, length = levels(first, calls, step)
    if length is None:
        return same(value, (words[0], tuple(sorted(found))))
    if type(value) is not tuple or len(value) != 2 or not same(value[0], words[1]):
        return False
    walk = value[1]
    if type(walk) is not tuple or len(walk) != length or not all(type(call) is str and call in calls for call in walk):
        return False
    place = first
    for call in walk:
        if place is not None:
            place = step(place, call)
    return place is None


def is_long_walk(value, calls):
    return type(value) is tuple and all(type(call) is str and call in calls for call in value)


def both(one, other, walk):
    """What is heard of two parts, one standing ahead of the other."""
    return other.heard(one.heard(walk))


def together(one, other):
    """The text of a device that is alike with both parts, one standing ahead; None if it would have too many states."""
    first = (one.states[0], other.states[0])
    found = [first]
    lines = []
    for left, right in found:
        for call in one.calls:
            word, goal = one.rows[left, call]
            answer, aim = other.rows[right, word]
            if (goal, aim) not in found:
                found.append((goal, aim))
            lines.append((found.index((left, right)), call, answer, found.index((goal, aim))))
    if len(found) > 4:
        return None
    heads = [' '.join(['calls', *one.calls]), ' '.join(['answers', *other.answers]),
             ' '.join(['states', *[f'w{at}' for at in range(len(found))]])]
    return '\n'.join(heads + [f'row w{state} {call} {answer} w{goal}' for state, call, answer, goal in lines])


def words_for(rnd, turn):
    """Three sequences of names: what is called first, what goes between, and what is heard at last."""
    calls = rnd.sample(['a', 'b', 'c'], rnd.choice((1, 2, 2, 3)))
    between = rnd.sample(['b', 'u', 'x'], 2 if turn % 3 else 3)
    answers = rnd.sample(['x', 'y', 'z'], 2 if turn % 4 else 3)
    return calls, between, answers


def some_chains(seed, many, most=4):
    """(one, other, wanted): one stands ahead of other; some of them together are as wanted, or almost."""
    rnd = random.Random(seed)
    for turn in range(many):
        calls, between, answers = words_for(rnd, turn)
        one = Device(random_text(rnd, calls, between, rnd.randint(1, most)))
        other = Device(random_text(rnd, between, answers, rnd.randint(1, most)))
        text = together(Plain(one.text), Plain(other.text))
        if text is None or turn % 4 == 0:
            wanted = Device(random_text(rnd, calls, answers, rnd.randint(1, 4)))
        else:
            wanted = Device(text)
            if turn % 4 == 1:
                state, call = rnd.choice(wanted.states), rnd.choice(calls)
                wanted = wanted.turned(state, call, rnd.choice(answers), rnd.choice(wanted.states))
        yield one, other, wanted


def all_devices(calls, answers, many):
    """All plain devices with these calls and answers, and just so many states."""
    states = [f'z{number}' for number in range(many)]
    rows = list(itertools.product(states, calls))
    heads = [' '.join(['calls', *calls]), ' '.join(['answers', *answers]), ' '.join(['states', *states])]
    for told in itertools.product(itertools.product(answers, states), repeat=len(rows)):
        lines = [f'row {state} {call} {answer} {goal}' for (state, call), (answer, goal) in zip(rows, told)]
        yield Plain('\n'.join(heads + lines))
