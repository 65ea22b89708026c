"""Live readers, which read on letter by letter."""

from growntexts.checks import first_foreign, is_letter
from growntexts.errors import InvalidInput, InvalidPair, Refused
from growntexts.writing import led, row_text


class Live:
    """A program that reads on, and what can be taken back."""

    def __init__(self, program):
        # The program, the state (its mode and the texts of the boxes), and all
        # letters that were read; and the same ahead of each deed.
        self.now = (program, program.begin, "")
        self.past = ()

    @property
    def program(self):
        """The program that reads."""
        return self.now[0]

    @property
    def spot(self):
        """The mode."""
        return self.now[1][0]

    @property
    def texts(self):
        """The texts of the boxes."""
        return self.now[1][1]

    @property
    def heard(self):
        """All letters that were read."""
        return self.now[2]

    @property
    def shown(self):
        """What is written if the input ends now, or None."""
        return shown_now(self.now)

    def take(self, letter):
        """Reads a letter, and returns what is written if the input ends then, or None."""
        if not is_letter(letter, self.program.letters):
            raise InvalidInput(len(self.heard))
        self.put(read_on(self.now, letter))
        return self.shown

    def several(self, letters):
        """Reads all letters of a string, or none; returns what is written behind each of them."""
        at = first_foreign(letters, self.program.letters)
        if at is not None:
            raise Refused(at)
        now = self.now
        found = []
        for letter in letters:
            now = read_on(now, letter)
            found.append(shown_now(now))
        self.put(now)
        return tuple(found)

    def change(self, program):
        """Lets another program read from now on; the texts of the boxes and the mode stay."""
        word = first_unlike_word(self.program, program)
        if word is not None:
            raise InvalidPair(word)
        _, state, heard = self.now
        self.put((program, state, heard))

    def put(self, now):
        """Does a deed, after which all is so."""
        self.past = self.past + (self.now,)
        self.now = now

    def undo(self):
        """Takes back the last deed; returns whether there was one."""
        if len(self.past) == 0:
            return False
        self.now = self.past[-1]
        self.past = self.past[:-1]
        return True

    def within(self, work):
        """Calls a function with this reader; behind it all is as it was ahead."""
        now = self.now
        past = self.past
        try:
            return work(self)
        finally:
            self.now, self.past = now, past

    def __len__(self):
        return len(self.past)


def read_on(now, letter):
    """What a live reader has behind one letter more."""
    program, state, heard = now
    return program, led(program, state, letter), heard + letter


def shown_now(now):
    """What is written if the input ends now, or None."""
    program, state, _ = now
    mode, texts = state
    row = program.ends[mode]
    return None if row is None else row_text(row, texts)


def first_unlike_word(program, other):
    """The first word for what two programs differ in, or None."""
    if program.signs != other.signs:
        return "signs"
    if program.letters != other.letters:
        return "letters"
    if program.modes != other.modes:
        return "modes"
    if program.boxes != other.boxes:
        return "boxes"
    return None
