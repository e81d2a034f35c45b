"""Missing parts that stand before a known part."""

from toldboxes.devices import Device
from toldboxes.errors import Unfit
from toldboxes.going import is_told_of, told_of
from toldboxes.words import is_among, is_pair, is_same

WORDS = ("fits", "apart")


def fits_before(part, known, wanted):
    """Whether part, and known behind it, do what is wanted: all triples, or a shortest walk by which they do not."""
    refuse_wanted(known, wanted)
    refuse_part(part, known, wanted)
    first = (part.states[0], known.states[0], wanted.states[0])
    return told_of(WORDS, first, wanted.calls, lambda place, call: gone_before(part, known, wanted, place, call))


def shows_fits_before(part, known, wanted, value):
    """Whether any value is such a result of fits_before."""
    refuse_wanted(known, wanted)
    refuse_part(part, known, wanted)
    first = (part.states[0], known.states[0], wanted.states[0])
    return is_told_of(
        WORDS, first, wanted.calls, lambda place, call: gone_before(part, known, wanted, place, call), value
    )


def widest_before(known, wanted):
    """All that a part may answer before known; or rows by which whatever it does is heard otherwise in the end."""
    refuse_wanted(known, wanted)
    rows = lost_rows(known, wanted)
    lost = [pair for pair, _ in rows]
    first = (known.states[0], wanted.states[0])
    if first in lost:
        return "never", tuple(rows[:lost.index(first) + 1])
    return "widest", rows_from(known, wanted, lost, first)


def shows_widest_before(known, wanted, value):
    """Whether any value is such a result of widest_before."""
    told = widest_before(known, wanted)
    if told[0] == "widest":
        return is_same(value, told)
    if not isinstance(value, tuple) or len(value) != 2 or value[0] != "never":
        return False
    return are_lost(known, wanted, value[1])


def refuse_wanted(known, wanted):
    """Raises Unfit unless some part before known can do what is wanted, as far as calls and answers tell it."""
    if len(known.calls) < 2 or wanted.answers != known.answers:
        raise Unfit(wanted)


def refuse_part(part, known, wanted):
    """Raises Unfit for what does not stand before known with the calls of wanted."""
    if not isinstance(part, Device) or part.calls != wanted.calls or part.answers != known.calls:
        raise Unfit(part)


def gone_before(part, known, wanted, place, call):
    """The triple of states behind this one by the call; None if it is answered otherwise than wanted."""
    asked_of, goal = part.row(place[0], call)
    answer, state = known.row(place[1], asked_of)
    reply, aim = wanted.row(place[2], call)
    return (goal, state, aim) if answer == reply else None


def right_answers(known, wanted, lost, pair, call):
    """The calls of known that are answered as wanted, and lead to a pair that is not lost; each with this pair."""
    reply, aim = wanted.row(pair[1], call)
    found = []
    for asked_of in known.calls:
        answer, goal = known.row(pair[0], asked_of)
        if answer == reply and (goal, aim) not in lost:
            found.append((asked_of, (goal, aim)))
    return found


def lost_rows(known, wanted):
    """For each pair that is lost, as they are lost one behind the other, (pair, call)."""
    pairs = [(state, goal) for state in known.states for goal in wanted.states]
    rows = []
    lost = []
    # Each round finds a further pair until there is none.
    for _ in pairs:
        for pair in pairs:
            calls = [call for call in wanted.calls if not right_answers(known, wanted, lost, pair, call)]
            if calls and pair not in lost:
                rows.append((pair, calls[0]))
                lost.append(pair)
    return rows


def rows_from(known, wanted, lost, first):
    """The rows of all pairs that are come to by right answers."""
    found = [first]
    rows = []
    at = 0
    while at < len(found):
        for call in wanted.calls:
            right = right_answers(known, wanted, lost, found[at], call)
            rows.append((found[at], call, tuple([asked_of for asked_of, _ in right])))
            for _, goal in right:
                if goal not in found:
                    found.append(goal)
        at += 1
    return tuple(sorted(rows))


def are_lost(known, wanted, value):
    """Whether any value is rows, that of the pair of both first states the last one, which show that it is lost."""
    if not isinstance(value, tuple) or not all([is_row_of(known, wanted, row) for row in value]):
        return False
    ahead = []
    for pair, call in value:
        if right_answers(known, wanted, ahead, pair, call):
            return False
        ahead.append(pair)
    return len(value) > 0 and ahead[-1] == (known.states[0], wanted.states[0])


def is_row_of(known, wanted, value):
    """Whether any value is a pair of states and a call of wanted."""
    if not isinstance(value, tuple) or len(value) != 2:
        return False
    return is_pair(value[0], known.states, wanted.states) and is_among(value[1], wanted.calls)
