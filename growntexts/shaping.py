"""Programs that are made from other ones."""

from growntexts.checks import is_letter, is_table
from growntexts.errors import InvalidInput
from growntexts.pairs import check_letters, numbered
from growntexts.programs import Program
from growntexts.settings import Setting
from growntexts.writing import stand


def turned(program):
    """A program that writes what the program writes, turned about."""
    ends = [None if row is None else turned_row(row) for row in program.ends]
    return Program(program.signs, program.letters, program.begin, program.ways, ends)


def turned_row(row):
    """The row of parts that makes the text of a row turned about."""
    return [turned_part(part) for part in row[::-1]]


def turned_part(part):
    """The part that makes the text of a part turned about."""
    kind, what = part
    if kind == "told":
        return "told", what[::-1]
    return ("turned" if kind == "box" else "box"), what


def skipping(program, letter):
    """A program that does nothing at a letter, and else what the program does."""
    if not is_letter(letter, program.letters):
        raise InvalidInput(0)
    at = program.letters.index(letter)
    staying = [Setting(box) for box in range(program.boxes)]
    ways = [
        list(row[:at]) + [(mode, staying)] + list(row[at + 1:])
        for mode, row in enumerate(program.ways)
    ]
    return Program(program.signs, program.letters, program.begin, ways, program.ends)


def recoded(program, table):
    """A program that does at each letter what the program does at the one in a table."""
    if not is_table(table, program.letters):
        raise InvalidInput(0)
    ways = [[program.way(mode, letter) for letter in table] for mode in range(program.modes)]
    return Program(program.signs, program.letters, program.begin, ways, program.ends)


def respelt(program, table):
    """A program that writes, for each sign, the one at its place in a table."""
    if not is_table(table, program.signs):
        raise InvalidInput(0)
    signs = {sign: other for sign, other in zip(program.signs, table)}
    mode, texts = program.begin
    begin = (mode, [respelt_text(text, signs) for text in texts])
    ways = [[respelt_way(way, signs) for way in row] for row in program.ways]
    ends = [None if row is None else [respelt_part(part, signs) for part in row] for row in program.ends]
    return Program(program.signs, program.letters, begin, ways, ends)


def respelt_text(text, signs):
    """A text with other signs in the places of its own."""
    return "".join([signs[sign] for sign in text])


def respelt_way(way, signs):
    """A way with other signs in its told texts."""
    target, settings = way
    return target, [respelt_setting(setting, signs) for setting in settings]


def respelt_setting(setting, signs):
    """A setting with other signs in its told texts."""
    head = respelt_text(setting.head, signs)
    tail = respelt_text(setting.tail, signs)
    return Setting(setting.source, head, tail, setting.is_turned)


def respelt_part(part, signs):
    """A part with other signs in what it tells."""
    kind, what = part
    return (kind, respelt_text(what, signs)) if kind == "told" else part


def behind(program, text):
    """A program that begins as the program stands behind an input."""
    return Program(program.signs, program.letters, stand(program, text), program.ways, program.ends)


def joined(p, q):
    """A program that writes what one program writes and then what another one does.

    Its modes are the pairs of modes that come about, its boxes those of both.
    """
    check_letters(p, q)
    numbers = numbered((p.begin[0], q.begin[0]), lambda modes: next_modes(p, q, modes))
    signs = p.signs + "".join([sign for sign in q.signs if sign not in p.signs])
    ways = [joined_ways(p, q, pair, numbers) for pair in numbers]
    ends = [joined_row(p.ends[one], q.ends[other], p.boxes) for one, other in numbers]
    return Program(signs, p.letters, (0, p.begin[1] + q.begin[1]), ways, ends)


def next_modes(p, q, pair):
    """The pairs of modes behind a pair of modes, for all letters."""
    one, other = pair
    return [(way[0], second[0]) for way, second in zip(p.ways[one], q.ways[other])]


def joined_ways(p, q, pair, numbers):
    """The ways of a joined program in a pair of modes."""
    one, other = pair
    settings = [
        list(way[1]) + [moved_setting(setting, p.boxes) for setting in second[1]]
        for way, second in zip(p.ways[one], q.ways[other])
    ]
    targets = [numbers[target] for target in next_modes(p, q, pair)]
    return list(zip(targets, settings))


def moved_setting(setting, by):
    """A setting from a box with a greater number."""
    if setting.source is None:
        return setting
    return Setting(setting.source + by, setting.head, setting.tail, setting.is_turned)


def joined_row(row, other, by):
    """The row of parts of a joined program, from the rows of both."""
    if row is None or other is None:
        return None
    return list(row) + [moved_part(part, by) for part in other]


def moved_part(part, by):
    """A part from a box with a greater number."""
    kind, what = part
    return part if kind == "told" else (kind, what + by)
