"""Programs made by counting, and other programs that always write the same."""

import itertools

from growntexts.programs import Program
from growntexts.settings import Setting
from growntexts.writing import write

PARTS = ("box", "turned")


class Chance:
    """Numbers that look like chance, the same ones in each run."""

    def __init__(self, state):
        self.state = state

    def below(self, end):
        self.state = (self.state * 6364136223846793005 + 1442695040888963407) % 2**64
        return (self.state >> 33) % end

    def one_of(self, things):
        return things[self.below(len(things))]

    def word(self, signs, longest):
        return "".join(self.one_of(signs) for _ in range(self.below(longest + 1)))


def some_setting(chance, signs, boxes, longest=3):
    if chance.below(8) == 0:
        return Setting(None, chance.word(signs, longest))
    head, tail = chance.word(signs, longest), chance.word(signs, longest)
    return Setting(chance.below(boxes), head, tail, chance.below(3) == 0)


def some_row(chance, signs, boxes, longest=3):
    """A row with at most two boxes and four parts, or None."""
    if chance.below(8) == 0:
        return None
    row = [(chance.one_of(PARTS), chance.below(boxes)) for _ in range(chance.below(3))]
    for _ in range(chance.below(3)):
        row.insert(chance.below(len(row) + 1), ("told", chance.one_of(signs) + chance.word(signs, max(longest, 1) - 1)))
    return row


def some_program(chance, signs="ab", letters="xy", modes=2, boxes=2, longest=3):
    ways = [
        [
            (chance.below(modes), [some_setting(chance, signs, boxes, longest) for _ in range(boxes)])
            for _ in letters
        ]
        for _ in range(modes)
    ]
    begin = (chance.below(modes), [chance.word(signs, longest) for _ in range(boxes)])
    ends = [some_row(chance, signs, boxes, longest) for _ in range(modes)]
    return Program(signs, letters, begin, ways, ends)


def some_programs(seed, many):
    """So many small programs of all kinds."""
    chance = Chance(seed)
    for _ in range(many):
        signs = chance.one_of(["a", "ab", "ba", "cab"])
        letters = chance.one_of(["x", "xy", "yx", "zxy"])
        yield some_program(chance, signs, letters, 1 + chance.below(3), 1 + chance.below(2), chance.below(4))


def some_small_programs(seed, many):
    """So many small programs of all kinds, some of them with each mode twice."""
    for at, program in enumerate(some_programs(seed, many)):
        yield doubled(program) if at % 4 == 0 else program


def rehoused(program, places, turned):
    """The program with other numbers of boxes, some of which are kept turned about.

    Box n has the number places[n] then, and is kept turned about if turned[n].
    """
    def housed(text, box):
        return text[::-1] if turned[box] else text

    def setting_of(setting, box):
        if setting.source is None:
            return Setting(None, housed(setting.head, box))
        head, tail = setting.head, setting.tail
        if turned[box]:
            head, tail = tail[::-1], head[::-1]
        is_turned = (setting.is_turned + turned[box] + turned[setting.source]) % 2 == 1
        return Setting(places[setting.source], head, tail, is_turned)

    def part_of(part):
        kind, what = part
        if kind == "told":
            return part
        return PARTS[(PARTS.index(kind) + turned[what]) % 2], places[what]

    def ordered(things):
        return [things[places.index(box)] for box in range(program.boxes)]

    mode, texts = program.begin
    begin = (mode, ordered([housed(text, box) for box, text in enumerate(texts)]))
    ways = [
        [(target, ordered([setting_of(one, box) for box, one in enumerate(settings)])) for target, settings in row]
        for row in program.ways
    ]
    ends = [None if row is None else [part_of(part) for part in row] for row in program.ends]
    return Program(program.signs, program.letters, begin, ways, ends)


def doubled(program, times=2):
    """The program with each mode several times, which are taken in turn."""
    modes = program.modes
    ways = [
        [(target + modes * ((round_ + 1) % times), settings) for target, settings in row]
        for round_ in range(times)
        for row in program.ways
    ]
    return Program(program.signs, program.letters, program.begin, ways, list(program.ends) * times)


def twins_of(program):
    """Programs that always write what the program writes."""
    places = [list(row) for row in itertools.permutations(range(program.boxes))]
    for row in places:
        for turned in itertools.product((0, 1), repeat=program.boxes):
            yield rehoused(program, row, turned)
    yield doubled(program)
    yield rehoused(doubled(program), places[-1], (1,) * program.boxes)


def inputs(letters, longest):
    """All inputs of at most so many letters, in the order of the document."""
    for many in range(longest + 1):
        for row in itertools.product(letters, repeat=many):
            yield "".join(row)


def first_found(p, q, longest):
    """The first input of at most so many letters for which two programs write unlike things."""
    for text in inputs(p.letters, longest):
        if write(p, text) != write(q, text):
            return text
    return None


def reach_of(letters):
    """How many letters inputs may have, if all are to be looked at."""
    return {1: 12, 2: 6, 3: 5}[len(letters)]
