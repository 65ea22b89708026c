"""Which rows of parts are always the same text in a mode."""

from growntexts.checks import is_sequence
from growntexts.digits import row_value
from growntexts.errors import InvalidRow
from growntexts.modes import check_mode, first_inputs
from growntexts.needs import needs
from growntexts.programs import is_part
from growntexts.readers import Readers
from growntexts.search import Search
from growntexts.settings import Setting
from growntexts.writing import row_text, stand


def leads(program, mode):
    """The first input that leads to a mode, or None."""
    check_mode(program, mode)
    return first_inputs(program).get(mode)


def always_same(program, mode, one, other):
    """Whether two rows are the same text for all inputs that lead to a mode."""
    return first_unlike(program, mode, one, other) is None


def first_unlike(program, mode, one, other):
    """The first input that leads to a mode for which two rows are not the same text, or None."""
    check_mode(program, mode)
    check_row(program, one)
    check_row(program, other)
    search = search_for(program, mode, [one, other])
    while (found := search.advance()) is not None:
        text, (modes, numbers) = found
        if modes == (mode,) and not same_there(search.readers, numbers, one, other):
            return text
    return None


def check_row(program, row):
    """Raises an error if a value is no row of parts of a program."""
    if not is_sequence(row):
        raise InvalidRow(0)
    for at, part in enumerate(row):
        if not is_part(part, program.signs, program.boxes):
            raise InvalidRow(at)


def search_for(program, mode, rows):
    """A search for the inputs that are needed to tell the values of rows in a mode."""
    readers = Readers((program,))
    needed = needs(readers.ways[0], [(mode, row) for row in rows])
    search = Search(readers, [needed])
    search.begin_at(readers.first())
    return search


def same_there(readers, numbers, one, other):
    """Whether two rows are the same text for boxes with these numbers."""
    # Unlike texts have unlike values.
    return row_value(one, numbers, readers.digits) == row_value(other, numbers, readers.digits)


def needed_texts(program, mode, rows):
    """The texts of the boxes behind the inputs that are needed to tell the values of rows in a mode.

    What a sum of these values tells for these inputs, it tells for all that lead there.
    """
    search = search_for(program, mode, rows)
    found = []
    while (needed := search.advance()) is not None:
        text, (modes, _) = needed
        if modes == (mode,):
            found.append(stand(program, text)[1])
    return found


def same_rows(program, mode):
    """All classes of rows of at most two boxes that are always the same text in a mode."""
    check_mode(program, mode)
    rows = short_rows(program.boxes)
    behind = needed_texts(program, mode, rows)
    if not behind:
        return ()
    classes = {}
    for row in rows:
        key = tuple([row_text(row, texts) for texts in behind])
        classes.setdefault(key, []).append(row)
    return tuple(sorted([tuple(found) for found in classes.values() if len(found) > 1]))


def short_rows(boxes):
    """All rows of at most two parts that are boxes, turned about or not, ascending."""
    parts = [(kind, box) for kind in ("box", "turned") for box in range(boxes)]
    pairs = [(one, other) for one in parts for other in parts]
    return sorted([()] + [(part,) for part in parts] + pairs)


def around(program, mode):
    """All pairs of a box, and a setting from another box that always makes its text in a mode."""
    check_mode(program, mode)
    # A told sign ahead of a box, as its weight has to be told, too.
    told = ("told", program.signs[0])
    rows = [(told, (kind, box)) for kind in ("box", "turned") for box in range(program.boxes)]
    behind = needed_texts(program, mode, rows)
    found = [
        (box, setting)
        for box in range(program.boxes)
        for source in range(program.boxes)
        if behind and box != source
        for setting in settings_between(behind, box, source)
    ]
    return tuple(sorted(found, key=pair_place))


def pair_place(pair):
    """What tells the place of a pair of a box and a setting among others."""
    box, setting = pair
    return box, str(setting)


def settings_between(behind, box, source):
    """The settings that make the texts of a box from those of another one."""
    whole = behind[0][box]
    many = len(behind[0][source])
    found = []
    for at in range(len(whole) - many + 1):
        head, tail = whole[:at], whole[at + many:]
        for is_turned in (False, True):
            setting = Setting(source, head, tail, is_turned)
            if makes_all(setting, behind, box):
                found.append(setting)
                # What is turned about makes the same then, or does not hold.
                break
    return found


def makes_all(setting, behind, box):
    """Whether a setting makes all the texts of a box."""
    return all([setting.over(texts[setting.source]) == texts[box] for texts in behind])
