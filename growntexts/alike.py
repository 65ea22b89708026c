"""Whether two programs write the same for all inputs."""

from growntexts.needs import figure_of, needs
from growntexts.pairs import Pair, modes_of
from growntexts.spans import Span


def alike(p, q):
    """Whether two programs write the same for all inputs, and refuse the same ones."""
    return parting(p, q) is None


def parting(p, q):
    """The first input for which two programs do not write the same, or None.

    If the figures behind an input are a sum of multiples of those behind
    earlier ones, it goes on so behind all further letters. So whatever begins
    with this input is not the first one that parts the programs.
    """
    pair = Pair(p, q)
    needed = (needs(p), needs(q))
    spans = {}
    queue = [("", pair.first_stands())]
    at = 0
    while at < len(queue):
        text, stands = queue[at]
        if not pair.writes_same(stands):
            return text
        if is_new(spans, modes_of(stands), needed_row(needed, stands)):
            queue.extend([(text + letter, pair.next_stands(stands, letter)) for letter in p.letters])
        at += 1
    return None


def needed_row(needed, stands):
    """1, and the figures that both programs need where they stand so."""
    row = [1]
    for figures, (mode, boxes) in zip(needed, stands):
        row.extend([figure_of(figure, boxes) for figure in figures[mode]])
    return row


def is_new(spans, modes, row):
    """Whether a row is no sum of multiples of earlier ones of its modes.

    If so, it is one of these from now on.
    """
    span = spans.setdefault(modes, Span(len(row)))
    rest = span.rest(row)
    if span.is_nothing(rest):
        return False
    span.put(rest)
    return True
