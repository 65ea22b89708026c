"""Papers, by which anybody can check that two programs are alike."""

from heapq import heappop, heappush

from growntexts.alike import parting
from growntexts.checks import are_integers, is_pair, is_spelt
from growntexts.digits import EACH, WEIGHT
from growntexts.pairs import check_letters
from growntexts.readers import Readers
from growntexts.search import planned_row
from growntexts.spans import Span
from growntexts.sums import sums_of
from growntexts.writing import check_input


def figures(p, q, text):
    """The row of figures of both programs behind an input."""
    check_letters(p, q)
    check_input(text, p.letters)
    readers = Readers((p, q))
    return tuple(figure_row(readers, readers.led_on(readers.first(), text)))


def figure_row(readers, state):
    """The row of figures in a state."""
    _, numbers = state
    row = [1]
    row.extend(numbers)
    at = EACH * readers.programs[0].boxes
    row.extend(products(numbers[:at]))
    row.extend(products(numbers[at:]))
    return row


def products(numbers):
    """The numbers of each box, times the weight of each box."""
    weights = numbers[WEIGHT::EACH]
    return [
        number * weight
        for at in range(0, len(numbers), EACH)
        for weight in weights
        for number in numbers[at:at + EACH]
    ]


class Draft:
    """The entries of a paper, as they are found one by one."""

    def __init__(self, readers):
        self.readers = readers
        # Inputs, each with the states behind its letters.
        self.entries = []
        # For each pair of modes: a span, and the states that are entries, by their
        # numbers, or sums of entries, each with its row of figures.
        self.spans = {}
        self.members = {}
        self.others = {}
        # What was looked at, and what waits for that: small numbers first, so
        # that the integers of the sums are small, too.
        self.seen = {}
        self.queue = []
        self.put("", readers.first())

    def put(self, text, state):
        """Puts an input where it waits."""
        _, numbers = state
        heappush(self.queue, (max(numbers), text, state))

    def advance(self):
        """Looks at inputs up to the next entry; the state behind it, or None."""
        while self.queue:
            _, text, state = heappop(self.queue)
            if state not in self.seen:
                self.seen[state] = True
                if self.is_entry(state):
                    self.enter(text, state)
                    return state
        return None

    def is_entry(self, state):
        """Whether the figures in a state are no sum of those of entries; it is kept, anyway."""
        modes, _ = state
        row = figure_row(self.readers, state)
        if modes not in self.spans:
            self.spans[modes] = Span(len(row))
            self.members[modes] = []
            self.others[modes] = []
        if self.spans[modes].takes(row):
            self.members[modes].append((len(self.entries), state, row))
            return True
        self.others[modes].append((state, row))
        return False

    def enter(self, text, state):
        """Makes an input an entry, and puts those behind it where they wait."""
        letters = self.readers.letters
        states = [self.readers.led(state, letter) for letter in letters]
        self.entries.append((text, states))
        for letter, led in zip(letters, states):
            self.put(text + letter, led)

    def sums(self):
        """The sum for each state, when nothing waits any more."""
        many = len(self.entries)
        found = {}
        for modes, span in self.spans.items():
            # At these places the figures of the entries tell all the others.
            places = [span.places[spot] for spot in span.spots]
            numbers = [number for number, _, _ in self.members[modes]]
            rows = [[row[place] for place in places] for _, _, row in self.members[modes]]
            others = [[row[place] for place in places] for _, row in self.others[modes]]
            for number, state, _ in self.members[modes]:
                found[state] = spread([1, 1], [number], many)
            for (state, _), whole in zip(self.others[modes], sums_of(rows, others)):
                found[state] = spread(whole, numbers, many)
        return found


def spread(whole, numbers, many):
    """A sum over the entries with these numbers as it stands in a paper with so many entries."""
    row = [0] * many
    for number, factor in zip(numbers, whole):
        row[number] = factor
    # The last integer belongs to no entry.
    return tuple(row + whole[-1:])


def paper(p, q):
    """A right paper that two programs are alike, or None if they are not."""
    check_letters(p, q)
    if not (has_short_rows(p) and has_short_rows(q)) and parting(p, q) is not None:
        return None
    readers = Readers((p, q))
    draft = Draft(readers)
    while (state := draft.advance()) is not None:
        if not readers.writes_same(state):
            return None
    sums = draft.sums()
    return tuple([(text, tuple([sums[led] for led in states])) for text, states in draft.entries])


def has_short_rows(program):
    """Whether the figures tell what is written, as no row has more than two boxes."""
    rows = [row for row in program.ends if row is not None]
    return all([len([kind for kind, _ in row if kind != "told"]) <= 2 for row in rows])


def paper_holds(p, q, value):
    """Whether a value is a right paper that two programs are alike."""
    check_letters(p, q)
    if not is_paper(value, p.letters) or value[0][0] != "":
        return False
    readers = Readers((p, q))
    texts = [text for text, _ in value]
    states = states_behind(readers, [text + letter for text in texts for letter in p.letters])
    if not all([readers.writes_same(states[text]) for text in texts]):
        return False
    width = width_for(value, states)
    plan = figure_plan(readers, list(states.values()))
    packs = {state: packed(planned_row(plan, state[1]), width) for state in states.values()}
    modes = [states[text][0] for text in texts]
    rows = [packs[states[text]] for text in texts]
    for text, sums in value:
        for letter, whole in zip(p.letters, sums):
            led = states[text + letter]
            if not sum_holds(whole, modes, rows, led[0], packs[led]):
                return False
    return True


def states_behind(readers, texts):
    """The states behind all inputs with which texts begin, each one reckoned once."""
    found = {"": readers.first()}
    for text in texts:
        for end in range(1, len(text) + 1):
            if text[:end] not in found:
                found[text[:end]] = readers.led(found[text[:end - 1]], text[end - 1])
    return found


def width_for(value, states):
    """So many bits that no figure, taken as often as a paper tells, and no sum of these, has more."""
    factor = max([max(max(whole), -min(whole)) for _, sums in value for whole in sums])
    number = max([max(numbers) for _, numbers in states.values()])
    return (factor * number * number * (len(value) + 1)).bit_length()


def figure_plan(readers, states):
    """The figures, as `search` plans them, but those that are the same in all states only once."""
    rows = [numbers for _, numbers in states]
    firsts = {}
    twins = []
    for place, column in enumerate(zip(*rows)):
        firsts.setdefault(column, place)
        twins.append(firsts[column])
    at = readers.shifts[1]
    pairs = [
        tuple(sorted([one, weight]))
        for own in (twins[:at], twins[at:])
        for one in own
        for weight in own[WEIGHT::EACH]
    ]
    return sorted(set(twins)), sorted(set(pairs)), []


def packed(row, width):
    """A row as one integer, in which each entry has so many bits.

    Sums of multiples of rows are equal just if the same sums of these integers
    are, as long as no entry needs more bits.
    """
    total = 0
    for entry in row:
        total = (total << width) + entry
    return total


def sum_holds(whole, modes, rows, led, row):
    """Whether a row in some modes (led) is this sum of the rows of entries, all of them packed."""
    total = 0
    # The last integer of the sum belongs to no entry, and zip leaves it out.
    for factor, own, other in zip(whole, modes, rows):
        if factor != 0:
            if own != led:
                return False
            total += factor * other
    return total == whole[-1] * row


def is_paper(value, letters):
    """Whether a value has the form of a paper."""
    if not isinstance(value, tuple) or len(value) == 0:
        return False
    if not all([is_entry(entry, letters, len(value)) for entry in value]):
        return False
    return len(set([text for text, _ in value])) == len(value)


def is_entry(value, letters, many):
    """Whether a value has the form of an entry of a paper with so many of them."""
    if not is_pair(value):
        return False
    text, sums = value
    if not is_spelt(text, letters) or not isinstance(sums, tuple) or len(sums) != len(letters):
        return False
    return all([is_sum(whole, many) for whole in sums])


def is_sum(value, many):
    """Whether a value has the form of a sum over so many entries."""
    if not isinstance(value, tuple) or len(value) != many + 1:
        return False
    return are_integers(value) and value[many] > 0
