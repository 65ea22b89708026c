"""Relations between the numbers of signs in boxes."""

from growntexts.checks import is_integer, is_sequence
from growntexts.errors import InvalidRow
from growntexts.modes import check_mode
from growntexts.spans import Span
from growntexts.sums import sums_of
from growntexts.writing import led, stand


def counts(program, text):
    """1, and how often each sign stands in each box behind an input."""
    _, texts = stand(program, text)
    return count_row(program.signs, texts)


def count_row(signs, texts):
    """1, and how often each sign stands in each text."""
    return (1, *[text.count(sign) for text in texts for sign in signs])


def holds(program, mode, relation):
    """Whether a relation holds for all inputs that lead to a mode."""
    return breaking(program, mode, relation) is None


def breaking(program, mode, relation):
    """The first input that leads to a mode for which a relation does not hold, or None."""
    check_mode(program, mode)
    check_relation(relation, 1 + program.boxes * len(program.signs))
    for text, row in needed_counts(program)[mode]:
        if sum([factor * count for factor, count in zip(relation, row)]) != 0:
            return text
    return None


def check_relation(relation, due):
    """Raises an error if a value is no sequence of so many integers."""
    if not is_sequence(relation):
        raise InvalidRow(0)
    for at, entry in enumerate(relation[:due]):
        if not is_integer(entry):
            raise InvalidRow(at)
    if len(relation) != due:
        raise InvalidRow(min(len(relation), due))


def needed_counts(program):
    """For each mode the inputs whose counts are no sums of multiples of earlier ones, and these counts.

    Each letter leads counts to counts by a fixed linear rule for each mode. So
    if the counts behind an input are such a sum, this goes on behind all
    further letters, and whatever holds for the earlier ones holds for it.
    """
    found = [[] for _ in program.ways]
    spans = [Span(1 + program.boxes * len(program.signs)) for _ in program.ways]
    queue = [("", program.begin)]
    at = 0
    while at < len(queue):
        text, state = queue[at]
        mode, texts = state
        row = count_row(program.signs, texts)
        if spans[mode].takes(row):
            found[mode].append((text, row))
            queue.extend([(text + letter, led(program, state, letter)) for letter in program.letters])
        at += 1
    return found


def relations(program, mode):
    """The reduced tuple of rows that tells all relations that hold in a mode."""
    check_mode(program, mode)
    rows = [row for _, row in needed_counts(program)[mode]]
    columns = [[row[place] for row in rows] for place in range(1 + program.boxes * len(program.signs))]
    basis, others = parted_places(columns)
    wholes = sums_of([columns[place] for place in basis], [columns[place] for place in others])
    return tuple([relation_of(whole, basis, place, len(columns)) for place, whole in zip(others, wholes)])


def parted_places(columns):
    """The places of columns that are no sums of multiples of those behind them, and of all others."""
    many = len(columns[0])
    if many == 0:
        return [], list(range(len(columns)))
    span = Span(many)
    basis = []
    others = []
    for place in reversed(range(len(columns))):
        kept = basis if span.takes(columns[place]) else others
        kept.append(place)
    return basis, others[::-1]


def relation_of(whole, basis, place, width):
    """The relation that a column is such a sum of those behind it."""
    row = [0] * width
    row[place] = whole[-1]
    # The last integer of the sum belongs to no column, and zip leaves it out.
    for other, factor in zip(basis, whole):
        row[other] = -factor
    return tuple(row)
