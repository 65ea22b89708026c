"""Programs and values that several tests use."""

from growntexts.errors import InvalidCommand, InvalidText, NoMode
from growntexts.programs import Program
from growntexts.settings import Setting
from growntexts.shapes import Shape

HEAD = "program signs ab letters xy"
MIRROR = HEAD + "\nbegin 0 -\nway 0 x 0 a.0.\nway 0 y 0 .0.b\nend 0 0 ~0"
TWINS = HEAD + "\nbegin 0 - -\nway 0 x 0 a.0. .1.a\nway 0 y 0 .0.b b.1.\nend 0 0 1"
OTHER = TWINS.replace("b.1.", ".1.b")

# Two modes, two boxes; x exchanges the boxes, y leads from mode to mode.
LONG = "\n".join([
    "program signs ab letters xy",
    "begin 1 ab -",
    "way 0 x 0 .1. .0.",
    "way 0 y 1 b.-. a.~0.bb",
    "way 1 x 1 .~1. aa.1.",
    "way 1 y 0 .0.a .0.b",
    "end 0 none",
    "end 1 1 =ba ~0 0",
])


def program_of(*lines):
    """The program with these lines."""
    return Program.read("\n".join(lines))


def long_arguments():
    """The arguments of the program LONG, in lists where there may be lists."""
    ways = [
        [(0, [Setting(1), Setting(0)]), (1, [Setting(None, "b"), Setting(0, "a", "bb", True)])],
        [(1, [Setting(1, "", "", True), Setting(1, "aa")]), (0, [Setting(0, "", "a"), Setting(0, "", "b")])],
    ]
    ends = [None, [("box", 1), ("told", "ba"), ("turned", 0), ("box", 0)]]
    return {"signs": "ab", "letters": "xy", "begin": (1, ["ab", ""]), "ways": ways, "ends": ends}


def nested(kind, value, depth):
    """A value within so many lists or tuples."""
    for _ in range(depth):
        value = kind([value])
    return value


def any_values():
    """Some values of each kind that may be passed as any value."""
    numbers = [0, 1, 2, 3, 10, 99, 100, -1, -2, 10**40, -(10**40)]
    strings = ["", "a", "b", "c", "ab", "aa", "A", "aB", "a b", "a\n", "\n", " ", "-", "~0", "a.0.", "0", "1"]
    strings += ["x", "y", "z", "xy", "yx", "\u00e9", "a\u00e9", "\u00aa", "\uff41", "\u0430", "\ud800", "{", "`"]
    objects = [Setting(0), Setting(None, "a"), Program.read(MIRROR), InvalidText(0), NoMode(1), InvalidCommand()]
    objects += [Shape("xy", [(0, 0)], [0])]
    rows = [[], (), [[]], ((),), [0], (0,), ["a"], ("a",), ["x", "y"], (0, ()), (0, []), [0, []], (0, [""])]
    rows += [(0, 0), ("box", 0), ("told", "a"), [("box", 0)], [None], (None, None, None), [True], (False, True)]
    rows += [(0, [Setting(0)]), [[(0, [Setting(0)])]], (0, [], []), [None, True, ["a", (Setting(0), -1)]]]
    rows += [nested(list, 0, 8), nested(tuple, None, 8), nested(list, (0, ("a", [])), 6)]
    return numbers + [True, False, None] + strings + objects + rows


def outcome(work, *arguments, **named):
    """What a call returns, or the kind and the attributes of its error."""
    try:
        return "returns", work(*arguments, **named)
    except Exception as error:
        return type(error).__name__, vars(error)


# The two pairs of programs for which papers took longest.
LATE_PAIRS = [
    (
        """program signs abc letters xyz
begin 0 a -
way 0 x 2 .0. a.1.
way 0 y 1 .1.a b.~0.a
way 0 z 2 .1. .~1.
way 1 x 2 b.-. .~0.c
way 1 y 0 a.-. a.1.
way 1 z 1 a.0. c.1.ba
way 2 x 2 baa.~0.c a.~0.cc
way 2 y 0 .~0.bba abc.0.bc
way 2 z 2 a.1.ca cb.~0.
end 0 ~0 ~0
end 1 ~1 1
end 2 ~1 ~0""",
        """program signs abc letters xyz
begin 0 - a
way 0 x 2 a.0. .1.
way 0 y 1 b.~1.a .0.a
way 0 z 2 .~0. .0.
way 1 x 2 .~1.c b.-.
way 1 y 0 a.0. a.-.
way 1 z 1 c.0.ba a.1.
way 2 x 2 a.~1.cc baa.~1.c
way 2 y 0 abc.1.bc .~1.bba
way 2 z 2 cb.~1. a.0.ca
end 0 ~1 ~1
end 1 ~0 0
end 2 ~0 ~1""",
    ),
    (
        """program signs ab letters xy
begin 1 a -
way 0 x 1 b.0. .1.a
way 0 y 0 b.0.b bb.-.
way 1 x 0 .0.b b.0.a
way 1 y 0 a.~1. .1.
end 0 1
end 1 1 0""",
        """program signs ab letters xy
begin 1 - a
way 0 x 1 .0.a b.1.
way 0 y 0 bb.-. b.1.b
way 1 x 0 b.1.a .1.b
way 1 y 0 .0. a.~0.
end 0 0
end 1 0 1""",
    ),
]
