"""What the tests look at by themselves: the document's words, done the slow way, without the package."""

import itertools
import re

NAME = '[a-z][a-z0-9]{0,7}'


def is_whole(value, low, high):
    return type(value) is int and low <= value <= high


def same(one, other):
    """Whether two values are the same, kind by kind: a list is not a tuple, and True is not 1."""
    if type(one) is not type(other):
        return False
    if isinstance(one, (tuple, list)):
        return len(one) == len(other) and all(same(a, b) for a, b in zip(one, other))
    return one == other


def stands_once(line, head, fewest, most):
    if not re.fullmatch(f'{head}( {NAME}){{{fewest},{most}}}', line):
        return False
    names = line.split(' ')[1:]
    return len(names) == len(set(names))


def bad_device(text):
    """The number that BadDevice tells; None if the text is a device."""
    if type(text) is not str:
        return 0
    lines = text.split('\n')
    rows = set()
    for number, line in enumerate(lines, 1):
        if number <= 3:
            head, fewest, most = (('calls', 1, 3), ('answers', 2, 3), ('states', 1, 4))[number - 1]
            if not stands_once(line, head, fewest, most):
                return number
            continue
        calls, answers, states = [set(known.split(' ')[1:]) for known in lines[:3]]
        match = re.fullmatch(f'row ({NAME}) ({NAME}) ({NAME}) ({NAME})', line)
        if not match or match[1] not in states or match[2] not in calls:
            return number
        if match[3] not in answers or match[4] not in states or (match[1], match[2]) in rows:
            return number
        rows.add((match[1], match[2]))
    if len(lines) < 3 or len(rows) < len(calls_of(lines[0])) * len(calls_of(lines[2])):
        return len(lines) + 1
    return None


def bad_tests(text, word='test'):
    """The number that BadTests tells; None if the text has the form of tests, or of tellings."""
    if type(text) is not str:
        return 0
    lines = text.split('\n')
    for number, line in enumerate(lines, 1):
        if number <= 2:
            head, fewest, most = (('calls', 1, 3), ('answers', 2, 3))[number - 1]
            if not stands_once(line, head, fewest, most):
                return number
            continue
        calls, answers = [set(known.split(' ')[1:]) for known in lines[:2]]
        if not re.fullmatch(f'{word}( {NAME} {NAME}){{1,12}}', line) or number > 62:
            return number
        words = line.split(' ')[1:]
        if not set(words[::2]) <= calls or not set(words[1::2]) <= answers:
            return number
    return len(lines) + 1 if len(lines) < 2 else None


def calls_of(line):
    return tuple(line.split(' ')[1:])


class Plain:
    """A device as the tests see it."""

    def __init__(self, text):
        assert bad_device(text) is None, text
        lines = text.split('\n')
        self.calls, self.answers, self.states = [calls_of(line) for line in lines[:3]]
        self.rows = {}
        for line in lines[3:]:
            _, state, call, answer, goal = line.split(' ')
            self.rows[state, call] = answer, goal

    def go(self, walk, state=None):
        """What is heard, and the state behind it."""
        state = self.states[0] if state is None else state
        heard = []
        for call in walk:
            answer, state = self.rows[state, call]
            heard.append(answer)
        return tuple(heard), state

    def heard(self, walk, state=None):
        return self.go(walk, state)[0]


def walks_to(calls, length):
    """All walks of none to so many calls, as walks stand in sequence."""
    for many in range(length + 1):
        yield from itertools.product(calls, repeat=many)


def first_parting(one, other, state=None, begin=None):
    """The first walk that one answers otherwise than other; None if there is none."""
    state = one.states[0] if state is None else state
    begin = other.states[0] if begin is None else begin
    level = [((), state, begin)]
    for _ in range(len(one.states) * len(other.states) + 1):
        behind = []
        met = set()
        for walk, left, right in level:
            for call in one.calls:
                answer, goal = one.rows[left, call]
                reply, aim = other.rows[right, call]
                if answer != reply:
                    return walk + (call,)
                if (goal, aim) not in met:
                    met.add((goal, aim))
                    behind.append((walk + (call,), goal, aim))
        level = behind
    return None


def texts_of_all(calls, answers, many):
    """The texts of all devices with these calls and answers, and just so many states."""
    states = [f'z{number}' for number in range(many)]
    places = [(state, call) for state in states for call in calls]
    heads = [' '.join(['calls', *calls]), ' '.join(['answers', *answers]), ' '.join(['states', *states])]
    for told in itertools.product(itertools.product(answers, states), repeat=len(places)):
        rows = [f'row {state} {call} {answer} {goal}' for (state, call), (answer, goal) in zip(places, told)]
        yield '\n'.join(heads + rows)


ALL = {}


def all_to(calls, answers, most):
    """All devices with these calls and answers, and at most so many states."""
    key = calls, answers, most
    if key not in ALL:
        ALL[key] = [Plain(text) for many in range(1, most + 1) for text in texts_of_all(calls, answers, many)]
    return ALL[key]


class Said:
    """Tests as the tests see them."""

    def __init__(self, text):
        assert bad_tests(text) is None, text
        lines = text.split('\n')
        self.calls, self.answers = [calls_of(line) for line in lines[:2]]
        self.rows = []
        self.told = {(): None}
        for line in lines[2:]:
            words = line.split(' ')[1:]
            self.rows.append((tuple(words[::2]), tuple(words[1::2])))
            for many in range(1, len(words) // 2 + 1):
                self.told[tuple(words[:2 * many:2])] = words[2 * many - 1]
        self.nodes = sorted(self.told, key=lambda node: (len(node), [self.calls.index(call) for call in node]))

    def agrees(self, device):
        return all(device.heard(walk) == answers for walk, answers in self.rows)


def agreeing(said, most):
    """All devices of at most so many states that agree."""
    return [device for device in all_to(said.calls, said.answers, most) if said.agrees(device)]


def sortings(said, m):
    """All sortings by m, sorted: of all ways of laying the nodes into classes those that keep to the words."""
    ways = [(0,)]
    for many in range(2, len(said.nodes) + 1):
        ways = [way + (goal,) for way in ways for goal in range(min(m, max(way) + 2))]
        ways = [way for way in ways if is_sorting(said, said.nodes[:many], way)]
    return sorted(ways)


def is_sorting(said, nodes, way):
    """Whether these nodes, and those behind them, are laid into classes as sortings have it."""
    place = dict(zip(nodes, way))
    for one, other in itertools.combinations(nodes, 2):
        if place[one] == place[other]:
            for call in said.calls:
                left, right = one + (call,), other + (call,)
                if left in place and right in place:
                    if said.told[left] != said.told[right] or place[left] != place[right]:
                        return False
    return True


def gone_on(said, place):
    """A beginning, a dict of the classes by nodes, gone on as long as there is something to be done."""
    place = dict(place)
    while True:
        likes = {(place[node[:-1]], node[-1]): place[node] for node in place if node}
        more = {}
        for node in place:
            for call in said.calls:
                behind = node + (call,)
                if behind in said.told and behind not in place and (place[node], call) in likes:
                    more[behind] = likes[place[node], call]
        if not more:
            return place
        place.update(more)


def is_node(said, value):
    return type(value) is tuple and all(type(call) is str for call in value) and value in said.told


def right_cases(said, m, value, end=None, place=None):
    """Whether any value is cases for a beginning; end tells it of an end."""
    place = gone_on(said, {(): 0} if place is None else place)
    if type(value) is not tuple or not value:
        return False
    if same(value[0], 'torn'):
        return right_torn(said, place, value)
    if not same(value[0], 'cases'):
        return end is not None and end(place, value)
    if len(value) != 3 or not is_node(said, value[1]) or type(value[2]) is not tuple:
        return False
    node = value[1]
    if node in place or node[:-1] not in place:
        return False
    many = len(set(place.values()))
    goals = list(range(many)) + ([many] if many < m else [])
    if len(goals) != len(value[2]):
        return False
    return all(right_cases(said, m, part, end, {**place, node: goal}) for goal, part in zip(goals, value[2]))


def right_torn(said, place, value):
    if len(value) != 4 or not all(type(part) is tuple for part in value[1:]):
        return False
    _, one, other, walk = value
    if not is_node(said, one) or not is_node(said, other) or one == other or len(walk) == 0:
        return False
    if one not in place or other not in place or place[one] != place[other]:
        return False
    if not is_node(said, one + walk) or not is_node(said, other + walk):
        return False
    return said.told[one + walk] != said.told[other + walk]


def right_alike_end(said, device, place, value):
    """Whether any tuple is an end of a proof."""
    many = len(set(place.values()))
    if len(value) != 2 or not same(value[0], 'alike') or type(value[1]) is not tuple or len(value[1]) != many:
        return False
    states = value[1]
    if not all(type(state) is str and state in device.states for state in states) or states[0] != device.states[0]:
        return False
    for number, state in enumerate(states):
        for call in said.calls:
            answer, goal = device.rows[state, call]
            if not any(
                place[node] == number and node + (call,) in place and said.told[node + (call,)] == answer
                and first_parting(device, device, goal, states[place[node + (call,)]]) is None
                for node in place
            ):
                return False
    return True


def right_device(said, text, most):
    """The device, if any value is the text of one of at most so many states that agrees; None if not."""
    if bad_device(text) is not None:
        return None
    device = Plain(text)
    if (device.calls, device.answers) != (said.calls, said.answers) or len(device.states) > most:
        return None
    return device if said.agrees(device) else None


def right_walk(one, other, value):
    """Whether any value is a walk that the one answers otherwise than the other."""
    if type(value) is not tuple or len(value) > 24 or not all(type(call) is str for call in value):
        return False
    return set(value) <= set(one.calls) and one.heard(value) != other.heard(value)


def right_fits(said, m, value):
    if type(value) is not tuple or len(value) != 2:
        return False
    if same(value[0], 'device'):
        return right_device(said, value[1], m) is not None
    return same(value[0], 'none') and right_cases(said, m, value[1])


def right_passes(device, said, m, parts):
    """Whether a tuple is the text of a device that passes, and a walk."""
    other = right_device(said, parts[0], m) if len(parts) == 2 else None
    return other is not None and right_walk(device, other, parts[1])


def right_proves(device, said, m, value):
    if type(value) is not tuple or not value:
        return False
    if same(value[0], 'passes'):
        return right_passes(device, said, m, value[1:])
    if not same(value[0], 'proved') or len(value) != 2:
        return False
    return right_cases(said, m, value[1], lambda place, end: right_alike_end(said, device, place, end))


def right_fooled(device, said, least, value):
    """least is the least number of states of a device that passes, None if there is none."""
    if type(value) is not tuple or not value:
        return False
    if same(value[0], 'fooled'):
        if least is None or len(value) != 4 or not is_whole(value[1], least, least):
            return False
        if not right_passes(device, said, least, value[2:]):
            return False
        return len(Plain(value[2]).states) == least
    if not same(value[0], 'none') or len(value) != 2:
        return False
    top = 3 if len(said.calls) == 3 else 4
    return right_cases(said, top, value[1], lambda place, end: right_alike_end(said, device, place, end))


def right_alike(one, other, value):
    if type(value) is not tuple or len(value) != 2:
        return False
    walk = first_parting(one, other)
    if walk is not None:
        return same(value[0], 'apart') and right_walk(one, other, value[1]) and len(value[1]) == len(walk)
    pairs = {(one.states[0], other.states[0])}
    for _ in range(len(one.states) * len(other.states)):
        pairs |= {(one.rows[left, call][1], other.rows[right, call][1]) for left, right in pairs for call in one.calls}
    return same(value, ('alike', tuple(sorted(pairs))))


def tears(said, place):
    """All that is torn by a beginning that is gone on."""
    found = []
    for one, other in itertools.permutations(list(place), 2):
        if place[one] == place[other]:
            for node in said.nodes:
                walk = node[len(one):]
                if node[:len(one)] == one and walk and other + walk in said.told:
                    if said.told[node] != said.told[other + walk]:
                        found.append(('torn', one, other, walk))
    return found


def any_cases(rnd, said, m, end, place=None):
    """Any right cases; end tells an end for a beginning that is gone on, of which nothing is open and nothing torn."""
    place = gone_on(said, {(): 0} if place is None else place)
    torn = tears(said, place)
    nodes = [node for node in said.nodes if node not in place and node[:-1] in place]
    if torn and (not nodes or rnd.random() < 0.7):
        return rnd.choice(torn)
    if not nodes:
        return end(place)
    node = rnd.choice(nodes)
    goals = range(min(m, len(set(place.values())) + 1))
    return 'cases', node, tuple(any_cases(rnd, said, m, end, {**place, node: goal}) for goal in goals)


def any_tests(rnd, calls, answers, many, longest):
    """The text of any tests that do not quarrel; they need not come of a device of few states."""
    told = {}
    lines = [' '.join(['calls', *calls]), ' '.join(['answers', *answers])]
    for _ in range(many):
        walk = tuple(rnd.choice(calls) for _ in range(rnd.randint(1, longest)))
        answers_told = [told.setdefault(walk[:at + 1], rnd.choice(answers)) for at in range(len(walk))]
        lines.append(' '.join(['test'] + [f'{call} {answer}' for call, answer in zip(walk, answers_told)]))
    return '\n'.join(lines)


def someone_passes(device, said, m):
    """Whether a device of at most m states agrees with the tests and is not alike with device."""
    return any(is_unlike(device, rows) for rows in rows_agreeing(said, m))


def rows_agreeing(said, m):
    """For all devices of at most m states that agree: their rows (state, call) by which the tests go.

    Goes through all of them row by row; states are called by the numbers by which they are come to first.
    """
    steps = [(call, answer, at == 0) for walk, answers in said.rows for at, (call, answer) in enumerate(zip(walk, answers))]
    waiting = [({}, 0, 0, 1)]
    while waiting:
        rows, number, state, many = waiting.pop()
        while number < len(steps):
            call, answer, begins = steps[number]
            state = 0 if begins else state
            told = rows.get((state, call))
            if told is None or told[0] != answer:
                break
            state = told[1]
            number += 1
        if number == len(steps):
            yield rows
        elif told is None:
            for goal in range(min(m, many + 1)):
                waiting.append(({**rows, (state, call): (answer, goal)}, number + 1, goal, max(many, goal + 1)))


def heard_by_all(said, m, walk):
    """The set of the answers of all devices of at most m states that agree; two at least where some row is free."""
    heard = set()
    for rows in rows_agreeing(said, m):
        state, answers = 0, []
        for call in walk:
            if (state, call) not in rows:
                return {None, 0}
            answer, state = rows[state, call]
            answers.append(answer)
        heard.add(tuple(answers))
    return heard


def is_unlike(device, rows):
    """Whether some device with these rows, of a device that begins at 0, is not alike with device."""
    pairs = [(device.states[0], 0)]
    for state, place in pairs:
        for call in device.calls:
            answer, goal = device.rows[state, call]
            told = rows.get((place, call))
            if told is None or told[0] != answer:
                return True
            if (goal, told[1]) not in pairs:
                pairs.append((goal, told[1]))
    return False


def least_fooling(device, said):
    """The least number of states of a device that agrees and is not alike with device; None if there is none."""
    top = 3 if len(said.calls) == 3 else 4
    for number in range(1, top + 1):
        if someone_passes(device, said, number):
            return number
    return None


def text_of(device):
    """The text of a plain device."""
    heads = [' '.join([head, *names]) for head, names in
             (('calls', device.calls), ('answers', device.answers), ('states', device.states))]
    return '\n'.join(heads + [f'row {s} {c} {a} {g}' for (s, c), (a, g) in device.rows.items()])


def versions_of(device, lot):
    """All versions of a plain device by a lot, which may be (), its own one among them."""
    found = []
    for told in itertools.product(itertools.product(device.answers, device.states), repeat=len(lot)):
        version = Plain(text_of(device))
        version.rows.update(zip(lot, told))
        found.append(version)
    return found


def unlike_ones(devices):
    """Some of these plain devices, so that each one is alike with just one of them."""
    found = []
    for device in devices:
        if all(first_parting(device, other) is not None for other in found):
            found.append(device)
    return found


def right_version(device, lot, text):
    """The device, if any value is the text of a version by the lot; None if not."""
    if bad_device(text) is not None:
        return None
    version = Plain(text)
    if (version.calls, version.answers, version.states) != (device.calls, device.answers, device.states):
        return None
    return version if all(version.rows[row] == device.rows[row] for row in device.rows if row not in lot) else None


def choices_in_sequence(menu, reset):
    """All choices, as they stand in sequence, each with its price."""
    found = []
    for many in range(len(menu) + 1):
        for choice in itertools.combinations(range(len(menu)), many):
            found.append((sum(len(menu[number]) + reset for number in choice), many, choice))
    return [(choice, price) for price, _, choice in sorted(found)]


def look_at_homing(device, states):
    """The first walk behind which what was heard tells the state, the device being in one of these at first."""
    for walk in walks_to(device.calls, 6):
        ends = {}
        for state in states:
            heard, goal = device.go(walk, state)
            ends.setdefault(heard, set()).add(goal)
        if all(len(goals) == 1 for goals in ends.values()):
            return walk
    raise AssertionError('no walk brings it home')


def bad_watch(text):
    """The number that BadWatch tells; None if the text is a watch."""
    if type(text) is not str:
        return 0
    lines = text.split('\n')
    steps = set()
    for number, line in enumerate(lines, 1):
        if number <= 3:
            head, fewest, most = (('calls', 1, 3), ('answers', 2, 3), ('marks', 1, 4))[number - 1]
            if not stands_once(line, head, fewest, most) or (number == 3 and 'broken' in line.split(' ')[1:]):
                return number
            continue
        calls, answers, marks = [set(known.split(' ')[1:]) for known in lines[:3]]
        words = line.split(' ')
        if len(words) != 5 or words[0] != 'step' or words[1] not in marks or words[2] not in calls:
            return number
        if words[3] not in answers or words[4] not in marks | {'broken'} or tuple(words[1:4]) in steps:
            return number
        steps.add(tuple(words[1:4]))
    return len(lines) + 1 if len(lines) < 3 else None


class Guard:
    """A watch as the tests see it: all steps are told, also those that lead to the mark itself."""

    def __init__(self, text):
        assert bad_watch(text) is None, text
        lines = text.split('\n')
        self.calls, self.answers, self.marks = [calls_of(line) for line in lines[:3]]
        self.calm = None
        self.goals = {}
        for mark in self.marks + ('broken',):
            for call in self.calls:
                for answer in self.answers:
                    self.goals[mark, call, answer] = mark
        for line in lines[3:]:
            _, mark, call, answer, goal = line.split(' ')
            self.goals[mark, call, answer] = goal

    def go(self, log, mark=None):
        """The mark behind a log."""
        mark = self.marks[0] if mark is None else mark
        for call, answer in log:
            mark = self.goals[mark, call, answer]
        return mark

    def at_risk(self, mark, call):
        """Whether some answer to this call leads to broken, or to a mark that is not safe."""
        if self.calm is None:
            self.calm = set(self.safe())
        return any(self.goals[mark, call, answer] not in self.calm for answer in self.answers)

    def safe(self):
        """The marks from which no steps lead to broken: those that are left when all others went."""
        left = set(self.marks)
        for _ in self.marks:
            left = {mark for mark in left if all(
                self.goals[mark, call, answer] in left for call in self.calls for answer in self.answers)}
        return tuple(mark for mark in self.marks if mark in left)
