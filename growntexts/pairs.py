"""Two things that read the same letters together."""

from growntexts.digits import VALUE, digits_of, row_numbers, set_numbers, text_numbers
from growntexts.errors import InvalidPair


def check_letters(one, other):
    """Raises an error if two things do not have the same letters in the same order."""
    if one.letters != other.letters:
        raise InvalidPair("letters")


def numbered(first, follow):
    """All states that come about from a first one, numbered as they come about.

    `follow` tells for a state those that come next.
    """
    numbers = {first: 0}
    queue = [first]
    at = 0
    while at < len(queue):
        states = follow(queue[at])
        for state in states:
            if state not in numbers:
                numbers[state] = len(queue)
                queue.append(state)
        at += 1
    return numbers


class Pair:
    """Two programs that read one input, with numbers of texts in their boxes.

    The stands of a pair are two pairs, one for each program: its mode, and the
    numbers of the texts of its boxes.
    """

    def __init__(self, p, q):
        check_letters(p, q)
        self.programs = (p, q)
        self.digits = digits_of(p.signs + q.signs)

    def first_stands(self):
        """The stands behind the empty input."""
        return tuple([self.first_stand(program) for program in self.programs])

    def first_stand(self, program):
        """The stand of one of the programs behind the empty input."""
        mode, texts = program.begin
        return mode, tuple([text_numbers(text, self.digits) for text in texts])

    def next_stands(self, stands, letter):
        """The stands behind one letter more."""
        return tuple([
            self.next_stand(program, stand, letter)
            for program, stand in zip(self.programs, stands)
        ])

    def next_stand(self, program, stand, letter):
        """The stand of one of the programs behind one letter more."""
        mode, boxes = stand
        target, settings = program.way(mode, letter)
        return target, tuple([set_numbers(setting, boxes, self.digits) for setting in settings])

    def stands_behind(self, text):
        """The stands behind an input."""
        stands = self.first_stands()
        for letter in text:
            stands = self.next_stands(stands, letter)
        return stands

    def writes_same(self, stands):
        """Whether both programs write the same, or refuse, where they stand so."""
        p, q = self.programs
        # Unlike texts have unlike values.
        return self.written(p, stands[0]) == self.written(q, stands[1])

    def written(self, program, stand):
        """The value of what a program writes where it stands so, or None."""
        mode, boxes = stand
        row = program.ends[mode]
        return None if row is None else row_numbers(row, boxes, self.digits)[VALUE]


def modes_of(stands):
    """The modes of the stands of a pair."""
    return stands[0][0], stands[1][0]
