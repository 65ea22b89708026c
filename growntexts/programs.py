"""Programs, which read letters and grow texts in boxes."""

from growntexts.checks import is_alphabet, is_letter, is_number_below, is_number_text
from growntexts.checks import is_pair, is_sequence, is_spelt, is_word
from growntexts.errors import InvalidInput, InvalidProgram, InvalidText, NoMode
from growntexts.settings import Setting


class Program:
    """Signs, letters, where it begins, what each letter does, what is written."""

    def __init__(self, signs, letters, begin, ways, ends):
        word = first_wrong(signs, letters, begin, ways, ends)
        if word is not None:
            raise InvalidProgram(word)
        mode, texts = begin
        self.signs = signs
        self.letters = letters
        self.begin = (mode, tuple(texts))
        self.ways = tuple([kept_ways(row) for row in ways])
        self.ends = tuple([None if row is None else tuple(row) for row in ends])
        self.modes = len(ways)
        self.boxes = len(texts)

    def way(self, mode, letter):
        """The next mode, and the settings, for a letter in a mode."""
        if not is_number_below(mode, self.modes):
            raise NoMode(mode)
        if not is_letter(letter, self.letters):
            raise InvalidInput(0)
        return self.ways[mode][self.letters.index(letter)]

    @classmethod
    def read(cls, text):
        """The program that has this text."""
        lines = text.split("\n")
        signs, letters = read_head(lines)
        begin = read_begin(lines)
        ways = read_ways(lines, letters)
        ends = read_ends(lines, 2 + len(ways) * len(letters), len(ways))
        return cls(signs, letters, begin, ways, ends)

    def __eq__(self, other):
        # Unlike texts have unlike attributes, and the other way round.
        return (
            isinstance(other, Program)
            and self.signs == other.signs
            and self.letters == other.letters
            and self.begin == other.begin
            and self.ways == other.ways
            and self.ends == other.ends
        )

    def __str__(self):
        return "\n".join(program_lines(self))


def kept_ways(row):
    """The ways of a mode, as a program keeps them."""
    return tuple([(target, tuple(settings)) for target, settings in row])


def first_wrong(signs, letters, begin, ways, ends):
    """The name of the first argument of a program that is wrong, or None."""
    if not is_alphabet(signs):
        return "signs"
    if not is_alphabet(letters):
        return "letters"
    if not are_ways(ways, signs, letters):
        return "ways"
    if not is_begin(begin, signs, ways):
        return "begin"
    if not are_ends(ends, signs, len(ways), len(begin[1])):
        return "ends"
    return None


def are_ways(value, signs, letters):
    """Whether a value is ways, as far as that can be told without `begin`."""
    if not is_sequence(value) or len(value) == 0:
        return False
    return all([is_mode(row, signs, letters, len(value)) for row in value])


def is_mode(value, signs, letters, modes):
    """Whether a value is a mode: a way for each letter."""
    if not is_sequence(value) or len(value) != len(letters):
        return False
    return all([is_way(way, signs, modes) for way in value])


def is_way(value, signs, modes):
    """Whether a value is a way, whatever boxes there are."""
    if not is_pair(value):
        return False
    target, settings = value
    if not is_number_below(target, modes) or not is_sequence(settings):
        return False
    return all([is_setting(setting, signs) for setting in settings])


def is_setting(value, signs):
    """Whether a value is a setting with told texts of these signs."""
    if not isinstance(value, Setting):
        return False
    return is_spelt(value.head, signs) and is_spelt(value.tail, signs)


def is_begin(value, signs, ways):
    """Whether a value is a mode and texts, and the ways have just these boxes."""
    if not is_pair(value):
        return False
    mode, texts = value
    if not is_number_below(mode, len(ways)):
        return False
    if not is_sequence(texts) or len(texts) == 0:
        return False
    if not all([is_spelt(text, signs) for text in texts]):
        return False
    return all([fits(way, len(texts)) for row in ways for way in row])


def fits(way, boxes):
    """Whether a way has a setting for each box, and all from such boxes."""
    settings = way[1]
    if len(settings) != boxes:
        return False
    return all([one.source is None or one.source < boxes for one in settings])


def are_ends(value, signs, modes, boxes):
    """Whether a value is a row of parts, or None, for each mode."""
    if not is_sequence(value) or len(value) != modes:
        return False
    return all([row is None or is_row(row, signs, boxes) for row in value])


def is_row(value, signs, boxes):
    """Whether a value is a sequence of parts."""
    return is_sequence(value) and all([is_part(part, signs, boxes) for part in value])


def is_part(value, signs, boxes):
    """Whether a value is a part: a box, a box turned about, or a told text."""
    if not is_pair(value):
        return False
    kind, what = value
    if kind == "told":
        return is_spelt(what, signs) and what != ""
    return kind in ("box", "turned") and is_number_below(what, boxes)


def program_lines(program):
    """The lines of the text of a program."""
    mode, texts = program.begin
    first = [
        f"program signs {program.signs} letters {program.letters}",
        " ".join(["begin", str(mode)] + [text or "-" for text in texts]),
    ]
    ways = [
        way_line(mode, letter, way)
        for mode, row in enumerate(program.ways)
        for letter, way in zip(program.letters, row)
    ]
    return first + ways + [end_line(mode, row) for mode, row in enumerate(program.ends)]


def way_line(mode, letter, way):
    """The line of a way."""
    target, settings = way
    words = ["way", str(mode), letter, str(target)]
    return " ".join(words + [str(setting) for setting in settings])


def end_line(mode, row):
    """The line of what is written in a mode."""
    words = ["none"] if row is None else [part_word(part) for part in row]
    return " ".join(["end", str(mode)] + words)


def part_word(part):
    """The text of a part."""
    kind, what = part
    if kind == "told":
        return f"={what}"
    if kind == "turned":
        return f"~{what}"
    return str(what)


def words_at(lines, at):
    """The words of a line."""
    # A lacking line has no form at its place, just as an empty one.
    return lines[at].split(" ") if at < len(lines) else [""]


def read_head(lines):
    """The signs and the letters that the first line tells."""
    words = words_at(lines, 0)
    if not has_head_form(words):
        raise InvalidText(0)
    return words[2], words[4]


def has_head_form(words):
    """Whether these are the words of a first line."""
    if len(words) != 5 or not is_filled_word(words[2]) or not is_filled_word(words[4]):
        return False
    return [words[0], words[1], words[3]] == ["program", "signs", "letters"]


def is_filled_word(word):
    """Whether a string is of lower-case letters, at least one."""
    return is_word(word) and word != ""


def read_begin(lines):
    """The mode and the texts that the second line tells."""
    words = words_at(lines, 1)
    if not has_begin_form(words):
        raise InvalidText(1)
    return int(words[1]), ["" if word == "-" else word for word in words[2:]]


def has_begin_form(words):
    """Whether these are the words of a second line."""
    if len(words) < 3 or words[0] != "begin" or not is_number_text(words[1]):
        return False
    return all([word == "-" or is_filled_word(word) for word in words[2:]])


def read_ways(lines, letters):
    """The ways that the lines behind the second one tell."""
    ways = []
    at = 2
    # One mode must be there, and each further `way` begins a further one.
    while at == 2 or words_at(lines, at)[0] == "way":
        row = []
        for letter in letters:
            words = words_at(lines, at)
            if not has_way_form(words, len(ways), letter):
                raise InvalidText(at)
            row.append((int(words[3]), [Setting.read(word) for word in words[4:]]))
            at += 1
        ways.append(row)
    return ways


def has_way_form(words, mode, letter):
    """Whether these are the words of the way of a letter in a mode."""
    if len(words) < 5 or words[:3] != ["way", str(mode), letter]:
        return False
    # Modes are numbered on, but no number in a text has three digits.
    if not is_number_text(words[1]) or not is_number_text(words[3]):
        return False
    return all([has_setting_form(word) for word in words[4:]])


def has_setting_form(word):
    """Whether a string is the text of a setting."""
    try:
        Setting.read(word)
    except InvalidText:
        return False
    return True


def read_ends(lines, first, modes):
    """The ends of so many modes that the lines from the first one on tell."""
    ends = []
    for mode in range(modes):
        words = words_at(lines, first + mode)
        if not has_end_form(words, mode):
            raise InvalidText(first + mode)
        ends.append(None if words[2:] == ["none"] else [read_part(word) for word in words[2:]])
    if len(lines) > first + modes:
        raise InvalidText(first + modes)
    return ends


def has_end_form(words, mode):
    """Whether these are the words of the end of a mode."""
    if words[:2] != ["end", str(mode)]:
        return False
    return words[2:] == ["none"] or all([has_part_form(word) for word in words[2:]])


def has_part_form(word):
    """Whether a string is the text of a part."""
    if word.startswith("="):
        return is_filled_word(word[1:])
    return is_number_text(word.removeprefix("~"))


def read_part(word):
    """The part with this text."""
    if word.startswith("="):
        return "told", word[1:]
    if word.startswith("~"):
        return "turned", int(word[1:])
    return "box", int(word)
