"""Names, lines of texts, walks and numbers: what several files read in the same way."""

LETTERS = "abcdefghijklmnopqrstuvwxyz"
FIGURES = "0123456789"
MOST_PAIRS = 12


def is_name(word):
    """Whether a string is a name."""
    if not 1 <= len(word) <= 8 or word[0] not in LETTERS:
        return False
    return all([sign in LETTERS or sign in FIGURES for sign in word])


def names_in(line, head, fewest, most):
    """The names behind the word head, so many and unlike ones; () if the line has another form."""
    words = line.split(" ")
    names = words[1:]
    if words[0] != head or not fewest <= len(names) <= most:
        return ()
    if len(set(names)) < len(names) or not all([is_name(name) for name in names]):
        return ()
    return tuple(names)


def read_heads(lines, heads):
    """The names in the first lines, by (word, fewest, most) for each line, and the number of the bad line or 0."""
    read = []
    for at, (head, fewest, most) in enumerate(heads):
        names = names_in(lines[at], head, fewest, most) if at < len(lines) else ()
        if not names:
            # A missing line has the number of lines and one: the same number as a bad line that stood here.
            return read, at + 1
        read.append(names)
    return read, 0


def pairs_in(line, head, calls, answers):
    """The one to twelve pairs (call, answer) behind the word head; () if the line has another form."""
    words = line.split(" ")
    row = tuple(zip(words[1::2], words[2::2]))
    if words[0] != head or len(words) != 1 + 2 * len(row):
        return ()
    return row if is_row(row, calls, answers, 1, MOST_PAIRS) else ()


def read_rows(lines, head, most, calls, answers):
    """The rows in the lines behind the first two, at most so many, and the number of the bad line or 0."""
    rows = []
    for at in range(2, len(lines)):
        row = pairs_in(lines[at], head, calls, answers)
        if not row or len(rows) == most:
            return tuple(rows), at + 1
        rows.append(row)
    return tuple(rows), 0


def line_of(head, row):
    """The line of a row of pairs, behind the word head."""
    return " ".join([head] + [f"{call} {answer}" for call, answer in row])


def is_among(value, names):
    """Whether any value is one of these names."""
    return isinstance(value, str) and value in names


def is_whole(value, low, high):
    """Whether any value is an integer from low to high; bools are none."""
    return isinstance(value, int) and not isinstance(value, bool) and low <= value <= high


def is_walk(value, calls, fewest, most):
    """Whether any value is a tuple of so many of these calls."""
    if not isinstance(value, tuple) or not fewest <= len(value) <= most:
        return False
    return all([is_among(call, calls) for call in value])


def is_long_walk(value, calls):
    """Whether any value is a tuple of any number of these calls."""
    return isinstance(value, tuple) and all([is_among(call, calls) for call in value])


def is_pair(value, calls, answers):
    """Whether any value is a tuple of a call and an answer."""
    if not isinstance(value, tuple) or len(value) != 2:
        return False
    return is_among(value[0], calls) and is_among(value[1], answers)


def is_row(value, calls, answers, fewest, most):
    """Whether any value is a tuple of so many pairs (call, answer)."""
    if not isinstance(value, tuple) or not fewest <= len(value) <= most:
        return False
    return all([is_pair(pair, calls, answers) for pair in value])


def in_sequence(walks, calls):
    """The list of these walks as walks stand in sequence."""
    return sorted(walks, key=lambda walk: (len(walk), [calls.index(call) for call in walk]))


def longest_of(walks, calls):
    """The list of those walks by which no longer one begins, each once, in sequence; and how many nodes they have."""
    beginnings = {walk[:many] for walk in walks for many in range(len(walk))}
    longest = []
    for walk in in_sequence(walks, calls):
        if walk not in beginnings and walk not in longest:
            longest.append(walk)
    # Each node is one of these walks or the beginning of one; () is a node where there are no walks, too.
    return longest, max(1, len(longest) + len(beginnings))


def is_same(value, told):
    """Whether any value is what is told, which is made of integers, strings, None and tuples; True is not 1."""
    if isinstance(told, tuple):
        if not isinstance(value, tuple) or len(value) != len(told):
            return False
        return all([is_same(part, known) for part, known in zip(value, told)])
    return not isinstance(value, bool) and value == told
