"""Letters that never matter, and letters that can always be exchanged."""

from growntexts.alike import parting_behind, written_needs
from growntexts.checks import is_letter
from growntexts.errors import InvalidInput
from growntexts.readers import Readers
from growntexts.search import Search


def idle(program):
    """The letters that never matter, in order."""
    lab = Lab(program)
    return tuple([letter for letter in program.letters if lab.parting(letter, "") is None])


def idle_break(program, letter):
    """A pair of inputs between which a letter matters, or None."""
    if not is_letter(letter, program.letters):
        raise InvalidInput(0)
    return Lab(program).parting(letter, "")


def swapping(program):
    """The pairs of unlike letters that can always be exchanged, in order."""
    lab = Lab(program)
    return tuple([
        (one, other)
        for at, one in enumerate(program.letters)
        for other in program.letters[at + 1:]
        if lab.parting(one + other, other + one) is None
    ])


def swap_break(program, one, other):
    """A pair of inputs between which two letters cannot be exchanged, or None."""
    for at, letter in enumerate((one, other)):
        if not is_letter(letter, program.letters):
            raise InvalidInput(at)
    return Lab(program).parting(one + other, other + one)


class Lab:
    """A program, and the inputs behind which something is tried."""

    def __init__(self, program):
        self.alone = Readers((program,))
        # The program twice, for two inputs that are unlike in the middle alone.
        self.twice = Readers((program, program))
        self.needed = written_needs(self.alone)
        self.search = Search(self.alone, self.needed)
        self.search.begin_at(self.alone.first())
        # What this search found so far.
        self.begins = []

    def beginning(self, at):
        """A needed input by its number, and the state behind it, or None if there are fewer."""
        while len(self.begins) <= at:
            found = self.search.advance()
            if found is None:
                return None
            self.begins.append(found)
        return self.begins[at]

    def parting(self, one, other):
        """A pair of inputs between which these two do not lead to the same that is written, or None.

        It is enough to try them behind needed inputs: what is behind any other
        one is a sum of what is behind these.
        """
        search = Search(self.twice, self.needed + self.needed)
        at = 0
        while (found := self.beginning(at)) is not None:
            text, state = found
            modes, numbers = self.alone.led_on(state, one)
            other_modes, other_numbers = self.alone.led_on(state, other)
            behind = parting_behind(search, (modes + other_modes, numbers + other_numbers))
            if behind is not None:
                return text, behind
            at += 1
        return None
