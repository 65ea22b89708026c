"""Papers, by which anybody can check that two programs are alike."""

from growntexts.alike import parting
from growntexts.checks import is_integer, is_pair, is_spelt
from growntexts.digits import BACK, VALUE, WEIGHT
from growntexts.needs import figure_of
from growntexts.pairs import Pair, modes_of
from growntexts.spans import Span
from growntexts.writing import check_input


def figures(p, q, text):
    """The row of figures of both programs behind an input."""
    pair = Pair(p, q)
    check_input(text, p.letters)
    return figure_row(pair.stands_behind(text))


def figure_row(stands):
    """The row of figures of the stands of a pair."""
    row = [1]
    for _, boxes in stands:
        row.extend([figure_of(figure, boxes) for figure in single_figures(len(boxes))])
    for _, boxes in stands:
        row.extend([figure_of(figure, boxes) for figure in double_figures(len(boxes))])
    return tuple(row)


def single_figures(many):
    """The figures of so many boxes, each by itself."""
    return [(place, box, ()) for box in range(many) for place in (VALUE, BACK, WEIGHT)]


def double_figures(many):
    """The figures of each two of so many boxes."""
    return [
        (place, box, (other,))
        for box in range(many)
        for other in range(many)
        for place in (VALUE, BACK, WEIGHT)
    ]


class Draft:
    """The entries of a paper, as they are found one by one."""

    def __init__(self):
        self.entries = []
        # For each pair of modes: the numbers of its entries, and their span.
        self.members = {}
        self.spans = {}

    def sum_for(self, text, stands):
        """The sum for an input: what each entry is taken times, and the last integer.

        If the input is no sum of entries, it becomes an entry.
        """
        row = figure_row(stands)
        many = len(row)
        members = self.members.setdefault(modes_of(stands), [])
        span = self.spans.setdefault(modes_of(stands), Span(many))
        rest = span.rest(list(row) + marks(len(members), many + 1))
        if span.is_nothing(rest):
            # The marks tell which multiples of rows made nothing.
            times = {number: -factor for number, factor in zip(members, rest[many:])}
            return times, rest[many + len(members)]
        span.put(rest)
        members.append(len(self.entries))
        self.entries.append((text, stands))
        return {len(self.entries) - 1: 1}, 1


def marks(place, many):
    """So many integers, all 0 but for a 1 at a place."""
    return [1 if at == place else 0 for at in range(many)]


def paper(p, q):
    """A right paper that two programs are alike, or None if they are not."""
    if parting(p, q) is not None:
        return None
    pair = Pair(p, q)
    draft = Draft()
    draft.sum_for("", pair.first_stands())
    found = []
    while len(found) < len(draft.entries):
        text, stands = draft.entries[len(found)]
        found.append([draft.sum_for(text + letter, pair.next_stands(stands, letter)) for letter in p.letters])
    return tuple([
        (entry, tuple([whole_sum(times, last, len(found)) for times, last in row]))
        for (entry, _), row in zip(draft.entries, found)
    ])


def whole_sum(times, last, many):
    """A sum as it stands in a paper with so many entries."""
    return tuple([times.get(at, 0) for at in range(many)] + [last])


def paper_holds(p, q, value):
    """Whether a value is a right paper that two programs are alike."""
    pair = Pair(p, q)
    if not is_paper(value, p.letters) or value[0][0] != "":
        return False
    stands = [pair.stands_behind(text) for text, _ in value]
    if not all([pair.writes_same(one) for one in stands]):
        return False
    rows = [figure_row(one) for one in stands]
    for (_, sums), one in zip(value, stands):
        for letter, whole in zip(p.letters, sums):
            if not sum_holds(whole, pair.next_stands(one, letter), stands, rows):
                return False
    return True


def is_paper(value, letters):
    """Whether a value has the form of a paper."""
    if not isinstance(value, tuple) or len(value) == 0:
        return False
    if not all([is_entry(entry, letters, len(value)) for entry in value]):
        return False
    return len(set([text for text, _ in value])) == len(value)


def is_entry(value, letters, many):
    """Whether a value has the form of an entry of a paper with so many of them."""
    if not is_pair(value):
        return False
    text, sums = value
    if not is_spelt(text, letters) or not isinstance(sums, tuple) or len(sums) != len(letters):
        return False
    return all([is_sum(whole, many) for whole in sums])


def is_sum(value, many):
    """Whether a value has the form of a sum over so many entries."""
    if not isinstance(value, tuple) or len(value) != many + 1:
        return False
    return all([is_integer(factor) for factor in value]) and value[many] > 0


def sum_holds(whole, led, stands, rows):
    """Whether the figures of stands are this sum of those of the entries."""
    total = [0] * len(rows[0])
    # The last integer of the sum belongs to no entry, and zip leaves it out.
    for factor, one, row in zip(whole, stands, rows):
        if factor != 0:
            if modes_of(one) != modes_of(led):
                return False
            total = [entry + factor * other for entry, other in zip(total, row)]
    return total == [entry * whole[-1] for entry in figure_row(led)]
