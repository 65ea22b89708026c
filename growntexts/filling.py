"""Told signs that are found back from examples."""

from growntexts.programs import Program
from growntexts.settings import Setting


def filled(program, places, texts):
    """The program with other texts at places."""
    told = {place: text for place, text in zip(places, texts)}
    ways = [
        [filled_way(way, mode, letter, told) for letter, way in zip(program.letters, row)]
        for mode, row in enumerate(program.ways)
    ]
    return Program(program.signs, program.letters, program.begin, ways, program.ends)


def filled_way(way, mode, letter, told):
    """A way with the texts that are told for its places."""
    target, settings = way
    return target, [
        filled_setting(setting, (mode, letter, box), told)
        for box, setting in enumerate(settings)
    ]


def filled_setting(setting, spot, told):
    """A setting with the texts that are told for its head and its tail."""
    head = told.get((*spot, "head"), setting.head)
    tail = told.get((*spot, "tail"), setting.tail)
    return Setting(setting.source, head, tail, setting.is_turned)


def fillings(program, places, examples, longest):
    """All tuples of texts at places with which the program writes what examples tell, ascending."""
    words = words_of(program.signs, longest)
    found = [()]
    for _ in places:
        found = [texts + (word,) for texts in found for word in words]
    for text, wanted in examples:
        pieces = written_pieces(program, places, text)
        found = [texts for texts in found if filled_text(pieces, texts) == wanted]
    return tuple(found)


def words_of(signs, longest):
    """All texts of at most so many signs, ascending."""
    found = [""]
    latest = [""]
    for _ in range(longest):
        latest = [word + sign for word in latest for sign in signs]
        found.extend(latest)
    return sorted(found)


def written_pieces(program, places, text):
    """What the program writes for an input, whatever stands at places, or None.

    It is told in pieces: texts, and pairs of the number of a place and whether
    the text there is turned about. No two texts stand side by side.
    """
    numbers = {place: at for at, place in enumerate(places)}
    mode, texts = program.begin
    boxes = [[told] for told in texts]
    for letter in text:
        target, settings = program.way(mode, letter)
        boxes = [
            set_pieces(setting, (mode, letter, box), boxes, numbers)
            for box, setting in enumerate(settings)
        ]
        mode = target
    row = program.ends[mode]
    return None if row is None else glued([piece for part in row for piece in part_pieces(part, boxes)])


def set_pieces(setting, spot, boxes, numbers):
    """The new pieces of a box, from the elder pieces of all boxes."""
    if setting.source is None:
        return [setting.head]
    head = side_piece(setting.head, (*spot, "head"), numbers)
    tail = side_piece(setting.tail, (*spot, "tail"), numbers)
    middle = boxes[setting.source]
    return glued([head] + (turned_pieces(middle) if setting.is_turned else middle) + [tail])


def side_piece(text, place, numbers):
    """The head or the tail of a setting: a text, or what stands at its place."""
    return (numbers[place], False) if place in numbers else text


def part_pieces(part, boxes):
    """The pieces that a part makes of the pieces of the boxes."""
    kind, what = part
    if kind == "told":
        return [what]
    return turned_pieces(boxes[what]) if kind == "turned" else boxes[what]


def turned_pieces(pieces):
    """The pieces of a text that is turned about."""
    return [turned_piece(piece) for piece in pieces[::-1]]


def turned_piece(piece):
    """A piece that is turned about."""
    if isinstance(piece, str):
        return piece[::-1]
    at, is_turned = piece
    return at, not is_turned


def glued(pieces):
    """The same pieces, but texts that stand side by side are joined."""
    found = []
    for piece in pieces:
        if found and isinstance(piece, str) and isinstance(found[-1], str):
            found[-1] = found[-1] + piece
        else:
            found.append(piece)
    return found


def filled_text(pieces, texts):
    """The text of pieces with these texts at places, or None without pieces."""
    return None if pieces is None else "".join([piece_text(piece, texts) for piece in pieces])


def piece_text(piece, texts):
    """The text of a piece with these texts at places."""
    if isinstance(piece, str):
        return piece
    at, is_turned = piece
    return texts[at][::-1] if is_turned else texts[at]
