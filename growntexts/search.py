"""Which inputs are needed, as what is behind them is no sum of what is behind earlier ones."""

from growntexts.spans import Span


class Search:
    """The needed inputs of programs that read together, by their order.

    If the figures behind an input are a sum of multiples of those behind
    earlier ones, in the same modes, it goes on so behind all further letters.
    So whatever begins with this input is not needed, either.
    """

    def __init__(self, readers, needed):
        self.readers = readers
        # For each program and mode the figures that are looked at.
        self.needed = needed
        # For tuples of modes the figures, by how many numbers they have, and the spans.
        self.plans = {}
        self.spans = {}
        self.queue = []
        self.at = 0

    def begin_at(self, state):
        """Begins anew at a state; what was found so far stays so."""
        self.queue = [("", state)]
        self.at = 0

    def advance(self):
        """The next needed input, and the state behind it, or None."""
        while self.at < len(self.queue):
            text, state = self.queue[self.at]
            self.at += 1
            if self.is_needed(state):
                letters = self.readers.letters
                self.queue.extend([(text + letter, self.readers.led(state, letter)) for letter in letters])
                return text, state
        return None

    def is_needed(self, state):
        """Whether the figures in a state are no sum of multiples of earlier ones."""
        modes, numbers = state
        if modes not in self.plans:
            self.plans[modes] = self.plan(modes)
        row = planned_row(self.plans[modes], numbers)
        if modes not in self.spans:
            self.spans[modes] = Span(len(row))
        return self.spans[modes].takes(row)

    def plan(self, modes):
        """The figures of all programs in these modes: of one number, of two, of more."""
        found = [
            tuple([place + by for place in figure])
            for needed, mode, by in zip(self.needed, modes, self.readers.shifts)
            for figure in needed[mode]
        ]
        singles = [figure[0] for figure in found if len(figure) == 1]
        doubles = [figure for figure in found if len(figure) == 2]
        return singles, doubles, [figure for figure in found if len(figure) > 2]


def planned_row(plan, numbers):
    """1, and the planned figures of numbers."""
    singles, doubles, others = plan
    row = [1]
    row.extend([numbers[place] for place in singles])
    row.extend([numbers[one] * numbers[two] for one, two in doubles])
    row.extend([product_of(figure, numbers) for figure in others])
    return row


def product_of(figure, numbers):
    """What a figure is for these numbers."""
    product = 1
    for place in figure:
        product *= numbers[place]
    return product
