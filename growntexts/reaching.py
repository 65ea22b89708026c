"""Whether a text is ever written, and by which input first.

A box can only go into a text if its own text stands in it, perhaps turned
about, and so on for the elder box from which it was set. All other texts are
left out (None), and so are those of boxes that go into nothing. What is left
is not much, and so all of it can be looked at.
"""

from growntexts.checks import first_foreign
from growntexts.errors import InvalidText
from growntexts.writing import row_text


def reaches(program, text):
    """Whether some input writes just this text."""
    return first_input(program, text) is not None


def first_input(program, text):
    """The first input that writes just this text, or None."""
    at = first_foreign(text, program.signs)
    if at is not None:
        raise InvalidText(at)
    pieces = pieces_of(text)
    used = used_boxes(program)
    mode, texts = program.begin
    first = (mode, left_texts(texts, used[mode], pieces))
    found = {first: ""}
    queue = [first]
    at = 0
    while at < len(queue):
        state = queue[at]
        if writes_there(program, state, text):
            return found[state]
        for letter, way in zip(program.letters, program.ways[state[0]]):
            following = led_left(way, state[1], used, pieces)
            if following not in found:
                found[following] = found[state] + letter
                queue.append(following)
        at += 1
    return None


def pieces_of(text):
    """All texts that stand in a text, or in the text turned about."""
    return {
        whole[start:end]: True
        for whole in (text, text[::-1])
        for start in range(len(whole) + 1)
        for end in range(start, len(whole) + 1)
    }


def used_boxes(program):
    """For each mode the boxes that can go into what is written from there on."""
    found = [{} for _ in program.ways]
    queue = [
        (mode, what)
        for mode, row in enumerate(program.ends)
        if row is not None
        for kind, what in row
        if kind != "told"
    ]
    while queue:
        mode, box = queue.pop()
        if box not in found[mode]:
            found[mode][box] = True
            queue.extend(elder_boxes(program, mode, box))
    return found


def elder_boxes(program, mode, box):
    """The modes, with boxes, from which a box in a mode is set."""
    return [
        (before, settings[box].source)
        for before, row in enumerate(program.ways)
        for target, settings in row
        if target == mode and settings[box].source is not None
    ]


def left_texts(texts, used, pieces):
    """The texts of boxes, but None for those that go into nothing."""
    return tuple([text if box in used and text in pieces else None for box, text in enumerate(texts)])


def led_left(way, texts, used, pieces):
    """The mode and the texts that are left behind a way."""
    target, settings = way
    return target, left_texts([set_left(setting, texts) for setting in settings], used[target], pieces)


def set_left(setting, texts):
    """The new text of a box, or None if it is set from a text that is left out."""
    if setting.source is None:
        return setting.head
    text = texts[setting.source]
    return None if text is None else setting.over(text)


def writes_there(program, state, text):
    """Whether the program writes just this text in a state."""
    mode, texts = state
    row = program.ends[mode]
    if row is None or any([kind != "told" and texts[what] is None for kind, what in row]):
        return False
    return row_text(row, texts) == text
