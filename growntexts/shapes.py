"""Shapes, which limit inputs."""

from growntexts.checks import is_alphabet, is_number_below, is_sequence
from growntexts.errors import InvalidShape
from growntexts.pairs import check_letters, numbered
from growntexts.programs import Program
from growntexts.settings import Setting
from growntexts.writing import check_input


class Shape:
    """Rooms, where each letter leads from them, and those where inputs may end."""

    def __init__(self, letters, rooms, ends):
        word = first_wrong(letters, rooms, ends)
        if word is not None:
            raise InvalidShape(word)
        self.letters = letters
        self.rooms = tuple([tuple(room) for room in rooms])
        self.ends = tuple(sorted(ends))

    def lets(self, text):
        """Whether an input leads from room 0 to one of the ends."""
        check_input(text, self.letters)
        room = 0
        for letter in text:
            room = self.rooms[room][self.letters.index(letter)]
            if room is None:
                return False
        return room in self.ends


def first_wrong(letters, rooms, ends):
    """The name of the first argument of a shape that is wrong, or None."""
    if not is_alphabet(letters):
        return "letters"
    if not are_rooms(rooms, len(letters)):
        return "rooms"
    if not are_ends(ends, len(rooms)):
        return "ends"
    return None


def are_rooms(value, letters):
    """Whether a value is rooms for so many letters."""
    if not is_sequence(value) or len(value) == 0:
        return False
    return all([is_room(room, letters, len(value)) for room in value])


def is_room(value, letters, rooms):
    """Whether a value tells for each letter one of so many rooms, or None."""
    if not is_sequence(value) or len(value) != letters:
        return False
    return all([target is None or is_number_below(target, rooms) for target in value])


def are_ends(value, rooms):
    """Whether a value is a sequence of unlike numbers of rooms."""
    if not is_sequence(value) or not all([is_number_below(room, rooms) for room in value]):
        return False
    return len(set(value)) == len(value)


def within(program, shape):
    """A program that writes what the program writes, but only for inputs that are let.

    Its modes are the pairs of a mode and a room that come about, and one more
    (None) for inputs that lead nowhere.
    """
    check_letters(program, shape)
    mode, texts = program.begin
    numbers = numbered((mode, 0), lambda place: next_states(program, shape, place))
    ways = [ways_within(program, shape, state, numbers) for state in numbers]
    ends = [end_within(program, shape, state) for state in numbers]
    return Program(program.signs, program.letters, (0, texts), ways, ends)


def next_states(program, shape, state):
    """The pairs of a mode and a room (or None) behind one of them, for all letters."""
    if state is None:
        return [None for _ in program.letters]
    mode, room = state
    return [
        None if target is None else (way[0], target)
        for way, target in zip(program.ways[mode], shape.rooms[room])
    ]


def ways_within(program, shape, state, numbers):
    """The ways from a pair of a mode and a room, or from nowhere."""
    # Nothing is written nowhere, so no box needs a text there.
    emptied = [Setting(None) for _ in range(program.boxes)]
    if state is None:
        return [(numbers[None], emptied) for _ in program.letters]
    mode, _ = state
    return [
        (numbers[target], emptied if target is None else way[1])
        for target, way in zip(next_states(program, shape, state), program.ways[mode])
    ]


def end_within(program, shape, state):
    """The row of parts in a pair of a mode and a room, or None."""
    if state is None:
        return None
    mode, room = state
    return program.ends[mode] if room in shape.ends else None
