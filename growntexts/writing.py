"""What a program holds and writes behind an input."""

from growntexts.checks import first_foreign
from growntexts.errors import InvalidInput


def check_input(text, letters):
    """Raises an error if a value is no string of these letters."""
    at = first_foreign(text, letters)
    if at is not None:
        raise InvalidInput(at)


def stand(program, text):
    """The mode and the texts of all boxes behind an input."""
    check_input(text, program.letters)
    state = program.begin
    for letter in text:
        state = led(program, state, letter)
    return state


def led(program, state, letter):
    """The mode and the texts of all boxes behind one letter more."""
    mode, texts = state
    target, settings = program.ways[mode][program.letters.index(letter)]
    return target, tuple([set_box(setting, texts) for setting in settings])


def set_box(setting, texts):
    """The new text of a box, from the elder texts of all boxes."""
    if setting.source is None:
        return setting.over("")
    return setting.over(texts[setting.source])


def row_text(row, texts):
    """The text that a row of parts makes of the texts of the boxes."""
    return "".join([part_text(part, texts) for part in row])


def part_text(part, texts):
    """The text that a part makes of the texts of the boxes."""
    kind, what = part
    if kind == "told":
        return what
    return texts[what][::-1] if kind == "turned" else texts[what]


def write(program, text):
    """What is written behind an input, or None if it is refused."""
    mode, texts = stand(program, text)
    row = program.ends[mode]
    return None if row is None else row_text(row, texts)
