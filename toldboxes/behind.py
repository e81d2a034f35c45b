"""Missing parts that stand behind a known part, and what tests of the whole can prove of them."""

from toldboxes.cases import Sorter, Tree, are_cases, cases_of
from toldboxes.devices import Device
from toldboxes.errors import Against, Unfit, Wide
from toldboxes.going import come_from, gone_by, is_told_of, told_of
from toldboxes.known import filled, rows_known
from toldboxes.likeness import refuse_other
from toldboxes.records import Tests, agreeing, answers_of, text_of_tests, walk_of
from toldboxes.sortings import all_sortings, refuse_number
from toldboxes.words import is_among, is_long_walk, is_same, is_whole

FIT_WORDS = ("fits", "apart")
ALIKE_WORDS = ("alike", "apart")
MOST_LOTS = 60


def fits_behind(part, known, wanted):
    """Whether known, and part behind it, do what is wanted: all triples, or a shortest walk by which they do not."""
    refuse_wanted(known, wanted)
    refuse_fit(part, known, wanted)
    first = (part.states[0], known.states[0], wanted.states[0])
    return told_of(FIT_WORDS, first, known.calls, lambda place, call: gone_as_wanted(part, known, wanted, place, call))


def shows_fits_behind(part, known, wanted, value):
    """Whether any value is such a result of fits_behind."""
    refuse_wanted(known, wanted)
    refuse_fit(part, known, wanted)
    first = (part.states[0], known.states[0], wanted.states[0])
    return is_told_of(
        FIT_WORDS, first, known.calls, lambda place, call: gone_as_wanted(part, known, wanted, place, call), value
    )


def widest_behind(known, wanted):
    """What a part behind known has to answer; or two walks that known answers alike and wanted otherwise."""
    refuse_wanted(known, wanted)
    walks = walks_alike(known, wanted)
    return ("never", *walks) if walks is not None else ("widest", rows_from(known, wanted))


def shows_widest_behind(known, wanted, value):
    """Whether any value is such a result of widest_behind."""
    told = widest_behind(known, wanted)
    if told[0] == "widest":
        return is_same(value, told)
    if not isinstance(value, tuple) or len(value) != 3 or value[0] != "never":
        return False
    return are_walks_alike(known, wanted, value[1], value[2])


def led(known, tests):
    """The tests of both parts together as tests of the one behind."""
    if tests.calls != known.calls:
        raise Unfit(tests)
    rows = [tuple(zip(known.heard(walk_of(row)), answers_of(row))) for row in tests.rows]
    return Tests(text_of_tests(known.answers, tests.answers, rows))


def same_behind(known, part, other):
    """Whether two parts do the same behind known: all triples, or a shortest walk by which they do not."""
    refuse_part(part, known)
    refuse_other(part, other)
    first = (known.states[0], part.states[0], other.states[0])
    return told_of(ALIKE_WORDS, first, known.calls, lambda place, call: gone_alike(known, part, other, place, call))


def shows_same_behind(known, part, other, value):
    """Whether any value is such a result of same_behind."""
    refuse_part(part, known)
    refuse_other(part, other)
    first = (known.states[0], part.states[0], other.states[0])
    return is_told_of(
        ALIKE_WORDS, first, known.calls, lambda place, call: gone_alike(known, part, other, place, call), value
    )


def proves_behind(known, part, tests, m):
    """Cases by which tests of the whole prove the part, or the text of one that passes and a walk of known."""
    found = passing_behind(known, part, tests, m)
    if found is not None:
        return "passes", *found
    tree = Tree(led(known, tests))
    return "proved", cases_of(tree, m, lambda classes: alike_end(known, part, rows_known(tree, classes)))


def shows_proves_behind(known, part, tests, m, value):
    """Whether any value is such a result of proves_behind."""
    passing_behind(known, part, tests, m)
    if not isinstance(value, tuple) or len(value) not in (2, 3):
        return False
    inner = led(known, tests)
    if len(value) == 3:
        other = agreeing(value[1], inner, m)
        return value[0] == "passes" and other is not None and is_apart_by(known, part, other, value[2])
    if value[0] != "proved":
        return False
    return are_cases(Tree(inner), m, value[1], lambda beginning, end: is_alike_end(known, part, beginning, end))


def refuse_wanted(known, wanted):
    """Raises Unfit unless known and wanted have the same calls in the same sequence."""
    if wanted.calls != known.calls:
        raise Unfit(wanted)


def refuse_part(part, known):
    """Raises Unfit for what does not stand behind known."""
    if not isinstance(part, Device) or part.calls != known.answers:
        raise Unfit(part)


def refuse_fit(part, known, wanted):
    """Raises Unfit for what does not stand behind known with the answers of wanted."""
    refuse_part(part, known)
    if part.answers != wanted.answers:
        raise Unfit(part)


def refuse_whole(known, part, tests):
    """Raises what is due if tests are none of both parts together, or these do not agree with them."""
    refuse_part(part, known)
    if tests.calls != known.calls or tests.answers != part.answers:
        raise Unfit(tests)
    for number, row in enumerate(tests.rows):
        if part.heard(known.heard(walk_of(row))) != answers_of(row):
            raise Against(number)


def gone_as_wanted(part, known, wanted, place, call):
    """The triple of states behind this one by the call; None if it is answered otherwise than wanted."""
    heard, state = known.row(place[1], call)
    answer, goal = part.row(place[0], heard)
    reply, aim = wanted.row(place[2], call)
    return (goal, state, aim) if answer == reply else None


def gone_alike(known, part, other, place, call):
    """The triple of states behind this one by a call of known; None if the parts answer otherwise."""
    heard, state = known.row(place[0], call)
    answer, goal = part.row(place[1], heard)
    reply, aim = other.row(place[2], heard)
    return (state, goal, aim) if answer == reply else None


def is_apart_by(known, part, other, walk):
    """Whether any value is a walk of known behind which two parts answer otherwise."""
    if not is_long_walk(walk, known.calls):
        return False
    first = (known.states[0], part.states[0], other.states[0])
    return gone_by(first, walk, lambda place, call: gone_alike(known, part, other, place, call)) is None


def walks_alike(known, wanted):
    """Two walks that known answers alike and wanted otherwise; None if there are none."""
    first = (known.states[0], wanted.states[0])
    steps = [(call, other) for call in known.calls for other in known.calls]
    walk = come_from((first, first), steps, lambda places, calls: gone_both(known, wanted, places, calls))[1]
    if walk is None:
        return None
    return tuple([call for call, _ in walk]), tuple([other for _, other in walk])


def gone_both(known, wanted, places, calls):
    """The two pairs of states behind these by two calls; None if known answers alike and wanted otherwise.

    They stay where known answers otherwise: nothing is looked at behind that.
    """
    one, other = places
    heard, state = known.row(one[0], calls[0])
    heard_too, state_too = known.row(other[0], calls[1])
    if heard != heard_too:
        return places
    reply, goal = wanted.row(one[1], calls[0])
    reply_too, goal_too = wanted.row(other[1], calls[1])
    return ((state, goal), (state_too, goal_too)) if reply == reply_too else None


def are_walks_alike(known, wanted, walk, other):
    """Whether any two values are walks that known answers alike and wanted otherwise."""
    if not is_long_walk(walk, known.calls) or not is_long_walk(other, known.calls):
        return False
    if heard_long(known, walk) != heard_long(known, other):
        return False
    return heard_long(wanted, walk) != heard_long(wanted, other)


def heard_long(device, walk):
    """The list of the answers to a walk of any number of calls."""
    state = device.states[0]
    answers = []
    for call in walk:
        answer, state = device.row(state, call)
        answers.append(answer)
    return answers


def rows_from(known, wanted):
    """For each lot that is come to, and each answer that known can give there, what wanted answers, ascending."""
    lots = [((known.states[0], wanted.states[0]),)]
    rows = []
    at = 0
    while at < len(lots):
        for answer in known.answers:
            replies, lot = lot_behind(known, wanted, lots[at], answer)
            if lot:
                rows.append((lots[at], answer, replies[0]))
                if lot not in lots:
                    lots.append(lot)
        if len(lots) > MOST_LOTS:
            raise Wide(MOST_LOTS)
        at += 1
    return tuple(sorted(rows))


def lot_behind(known, wanted, lot, answer):
    """What wanted answers where known answers so in this lot, and the lot of the pairs behind these calls."""
    replies = []
    pairs = []
    for state, goal in lot:
        for call in known.calls:
            heard, behind = known.row(state, call)
            if heard == answer:
                reply, aim = wanted.row(goal, call)
                replies.append(reply)
                pairs.append((behind, aim))
    return replies, tuple(sorted(set(pairs)))


def passing_behind(known, part, tests, m):
    """What proves_behind raises; and the text and the walk of a part that passes, None if the tests prove it."""
    refuse_whole(known, part, tests)
    refuse_number(part.calls, m)
    inner = led(known, tests)
    tree = Tree(inner)
    sorter = Sorter(tree, m)
    classes = sorter.advance()
    while classes is not None:
        rows = rows_known(tree, classes)
        walk = triples_met(known, part, rows)[1]
        if walk is not None:
            return text_otherwise(known, part, rows, walk), walk
        classes = sorter.advance()
    all_sortings(inner, m)
    return None


def triples_met(known, part, rows):
    """The list of the triples that are come to; and a walk of known behind which a part with these rows may differ."""
    first = (0, known.states[0], part.states[0])
    return come_from(first, known.calls, lambda place, call: gone_known(known, part, rows, place, call))


def gone_known(known, part, rows, place, call):
    """The triple (class, state of known, state of part) behind this one; None if the row is not that of part."""
    heard, state = known.row(place[1], call)
    answer, goal = part.row(place[2], heard)
    reply, aim = rows.get((place[0], heard), (None, None))
    return (aim, state, goal) if answer == reply else None


def text_otherwise(known, part, rows, walk):
    """The text of a part with these rows that answers otherwise behind this walk of known."""
    first = (0, known.states[0], part.states[0])
    ahead = gone_by(first, walk[:-1], lambda place, call: gone_known(known, part, rows, place, call))
    heard = known.row(ahead[1], walk[-1])[0]
    if (ahead[0], heard) in rows:
        return filled(part.calls, part.answers, rows)
    own = part.row(ahead[2], heard)[0]
    others = [answer for answer in part.answers if answer != own]
    return filled(part.calls, part.answers, {**rows, (ahead[0], heard): (others[0], 0)})


def alike_end(known, part, rows):
    """The end for a sorting with these rows: the triples that are come to."""
    return "alike", tuple(sorted(triples_met(known, part, rows)[0]))


def is_alike_end(known, part, beginning, value):
    """Whether a tuple is an end for a beginning by which all parts do the same behind known."""
    if len(value) != 2 or value[0] != "alike" or not isinstance(value[1], tuple):
        return False
    triples = value[1]
    if not all([is_triple(known, part, beginning.many, triple) for triple in triples]):
        return False
    if list(triples) != sorted(set(triples)) or (0, known.states[0], part.states[0]) not in triples:
        return False
    rows = beginning.rows_said()
    return all([is_led_on(known, part, rows, triples, triple, call) for triple in triples for call in known.calls])


def is_triple(known, part, many, value):
    """Whether any value is a triple (class, state of known, state of part)."""
    if not isinstance(value, tuple) or len(value) != 3 or not is_whole(value[0], 0, many - 1):
        return False
    return is_among(value[1], known.states) and is_among(value[2], part.states)


def is_led_on(known, part, rows, triples, triple, call):
    """Whether the answer of part is told to what known answers to the call, and leads to one of the triples."""
    heard, state = known.row(triple[1], call)
    answer, goal = part.row(triple[2], heard)
    answers, place = rows.get((triple[0], heard), ((), None))
    return answer in answers and (place, state, goal) in triples
