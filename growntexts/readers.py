"""Programs that read one input together, with numbers of texts in their boxes.

The state of such programs is a pair: the tuple of their modes, and the tuple
of the numbers of the texts of all their boxes (see `digits`).
"""

from growntexts.digits import EACH, digits_of, moved_rule, row_value, texts_numbers, way_rules


class Readers:
    """Programs with the same letters, and the rules by which letters change their numbers."""

    def __init__(self, programs):
        self.programs = programs
        self.letters = programs[0].letters
        self.digits = digits_of("".join([program.signs for program in programs]))
        # For each program, mode and letter: the next mode, and the rules.
        self.ways = [self.ways_of(program) for program in programs]
        # The same for tuples of modes and a letter, as they are asked for.
        self.joined = {}
        # For each program the place of its first number.
        boxes = [program.boxes for program in programs]
        self.shifts = [EACH * sum(boxes[:at]) for at in range(len(boxes))]

    def ways_of(self, program):
        """For each mode and letter of a program the next mode, and the rules."""
        return [[(way[0], way_rules(way, self.digits)) for way in row] for row in program.ways]

    def first(self):
        """The state behind the empty input."""
        modes = [program.begin[0] for program in self.programs]
        texts = [text for program in self.programs for text in program.begin[1]]
        return tuple(modes), tuple(texts_numbers(texts, self.digits))

    def led(self, state, letter):
        """The state behind one letter more."""
        modes, numbers = state
        if (modes, letter) not in self.joined:
            self.joined[modes, letter] = self.way(modes, self.letters.index(letter))
        targets, rules = self.joined[modes, letter]
        return targets, tuple([
            told + more * numbers[weight] + times * numbers[number]
            for told, more, weight, times, number in rules
        ])

    def way(self, modes, at):
        """The next modes, and the rules over all numbers, for a letter by its number."""
        found = [ways[mode][at] for ways, mode in zip(self.ways, modes)]
        rules = [
            moved_rule(rule, by)
            for (_, own), by in zip(found, self.shifts)
            for rule in own
        ]
        return tuple([target for target, _ in found]), rules

    def led_on(self, state, text):
        """The state behind more letters."""
        for letter in text:
            state = self.led(state, letter)
        return state

    def written(self, state):
        """For each program the value of what it writes in a state, or None."""
        modes, numbers = state
        rows = [program.ends[mode] for program, mode in zip(self.programs, modes)]
        return [
            None if row is None else row_value(row, numbers[by:], self.digits)
            for row, by in zip(rows, self.shifts)
        ]

    def writes_same(self, state):
        """Whether two programs write the same, or refuse both, in a state."""
        # Unlike texts have unlike values.
        one, other = self.written(state)
        return one == other
