"""[6]: the arguments and attributes of programs, and [1] to [3] as far as they speak of them."""

import copy
import itertools
import unittest

from growntexts.errors import InvalidProgram
from growntexts.programs import Program
from growntexts.settings import Setting
from tests.samples import LONG, MIRROR, any_values, long_arguments, outcome

PARAMETERS = ("signs", "letters", "ways", "begin", "ends")


def changed(**changes):
    """The arguments of LONG with some others in their places."""
    return {**long_arguments(), **changes}


def with_way(mode, letter, way):
    """The ways of LONG with another one at a place."""
    ways = long_arguments()["ways"]
    ways[mode][letter] = way
    return ways


def with_setting(mode, letter, box, setting):
    """The ways of LONG with another setting at a place."""
    ways = long_arguments()["ways"]
    ways[mode][letter][1][box] = setting
    return ways


def with_part(part):
    """The ends of LONG with a further part."""
    return [None, [("box", 1), ("told", "ba"), part]]


def wrong_alphabets():
    rows = [["a"], ["a", "b"], ("x",), ("x", "y"), [], {"a": 1}]
    return ["", "aa", "aba", "A", "aB", "a b", " ", "a\n", "a1", "1", "-", "`", "{", "\u00e9", "\uff41", 0, True, None] + rows


WRONG_WAYS = [
    [],
    (),
    "",
    "ab",
    [[]],
    [[], []],
    [None, None],
    ["ab", "ab"],
    [[(0, [Setting(0), Setting(1)])] * 2, [(0, [Setting(0), Setting(1)])]],
    [[(0, [Setting(0), Setting(1)])] * 3, [(0, [Setting(0), Setting(1)])] * 3],
    [[(0, [Setting(0), Setting(1)])] * 2, [(0, [Setting(0), Setting(1)])] * 3],
    {0: 1},
] + [
    with_way(mode, letter, way)
    for mode, letter in ((0, 0), (0, 1), (1, 0), (1, 1))
    for way in (
        None,
        0,
        "ab",
        [0, [Setting(0), Setting(1)]],
        (0,),
        (),
        (0, [Setting(0), Setting(1)], 0),
        ([Setting(0), Setting(1)], 0),
        (2, [Setting(0), Setting(1)]),
        (-1, [Setting(0), Setting(1)]),
        (True, [Setting(0), Setting(1)]),
        (False, [Setting(0), Setting(1)]),
        (None, [Setting(0), Setting(1)]),
        ("0", [Setting(0), Setting(1)]),
        ((0,), [Setting(0), Setting(1)]),
        (0, None),
        (0, 2),
        (0, Setting(0)),
        (0, ".0.-"),
        (0, {0: Setting(0), 1: Setting(1)}),
    )
] + [
    with_setting(mode, letter, box, setting)
    for mode, letter, box in itertools.product((0, 1), repeat=3)
    for setting in (
        None,
        0,
        True,
        ".0.",
        (0, "", "", False),
        [Setting(0)],
        Program.read(MIRROR),
        Setting(0, "c"),
        Setting(0, "", "c"),
        Setting(None, "c"),
        Setting(1, "abc", "ab", True),
        Setting(1, "ab", "bac", True),
    )
]

WRONG_BEGINS = [
    None,
    0,
    "ab",
    [1, ["ab", ""]],
    (),
    (1,),
    (1, "ab", ""),
    (1, ["ab", ""], 0),
    (["ab", ""], 1),
    (2, ["ab", ""]),
    (-1, ["ab", ""]),
    (True, ["ab", ""]),
    (False, ["ab", ""]),
    (None, ["ab", ""]),
    ("0", ["ab", ""]),
    (0, "ab"),
    (0, None),
    (0, 2),
    (0, []),
    (0, ()),
    (0, {"a": 1, "b": 2}),
    (0, ["a"]),
    (0, ["a", "b", ""]),
    (0, ["a", "c"]),
    (0, ["abc", "b"]),
    (0, ["a", "A"]),
    (0, ["a", None]),
    (0, [0, "a"]),
    (0, [["a"], "b"]),
    (0, [("a", "b"), "b"]),
]

WRONG_ENDS = [
    None,
    0,
    "",
    "ab",
    [],
    (),
    [None],
    [None, None, None],
    [[], [], None],
    {0: None, 1: None},
    [None, 0],
    [None, ""],
    [None, "ab"],
    [None, False],
    [None, {}],
    [None, ("box", 0)],
    [[("box", 2)], None],
] + [
    with_part(part)
    for part in (
        None,
        0,
        "0",
        "~0",
        [],
        (),
        ["box", 0],
        ("box",),
        ("box", 0, 0),
        (0, "box"),
        ("box", 2),
        ("turned", 2),
        ("box", -1),
        ("turned", -1),
        ("box", True),
        ("turned", False),
        ("box", None),
        ("box", "0"),
        ("turned", "a"),
        ("box", [0]),
        ("told", ""),
        ("told", "c"),
        ("told", "abc"),
        ("told", "A"),
        ("told", 0),
        ("told", None),
        ("told", ["a"]),
        ("tell", "a"),
        ("", 0),
        ("Box", 0),
        ("boxturned", 0),
        (None, 0),
        (0, 0),
        (True, 0),
        (["box"], 0),
        (Setting(0), 0),
        (Setting(0), "a"),
        Setting(0),
        Program.read(MIRROR),
    )
]

WRONG = {
    "signs": wrong_alphabets(),
    "letters": wrong_alphabets(),
    "ways": WRONG_WAYS,
    "begin": WRONG_BEGINS,
    "ends": WRONG_ENDS,
}


class AttributesTest(unittest.TestCase):
    def test_attributes_are_the_arguments_in_tuples(self):
        program = Program(**long_arguments())
        self.assertEqual(program.signs, "ab")
        self.assertEqual(program.letters, "xy")
        self.assertEqual(program.begin, (1, ("ab", "")))
        ways = (
            ((0, (Setting(1), Setting(0))), (1, (Setting(None, "b"), Setting(0, "a", "bb", True)))),
            ((1, (Setting(1, "", "", True), Setting(1, "aa"))), (0, (Setting(0, "", "a"), Setting(0, "", "b")))),
        )
        self.assertEqual(program.ways, ways)
        self.assertEqual(program.ends, (None, (("box", 1), ("told", "ba"), ("turned", 0), ("box", 0))))
        self.assertEqual((program.modes, program.boxes), (2, 2))

    def test_by_position_in_the_told_order(self):
        arguments = long_arguments()
        row = [arguments[name] for name in ("signs", "letters", "begin", "ways", "ends")]
        self.assertEqual(str(Program(*row)), LONG)

    def test_tuples_may_be_passed(self):
        first = Program(**long_arguments())
        again = Program(first.signs, first.letters, first.begin, first.ways, first.ends)
        for name in PARAMETERS:
            self.assertEqual(getattr(again, name), getattr(first, name))
        self.assertEqual(again, first)

    def test_numbers_of_modes_and_boxes(self):
        way = (0, [Setting(None)])
        self.assertEqual(vars(Program("a", "x", (0, [""]), [[way]], [None])), {
            "signs": "a",
            "letters": "x",
            "begin": (0, ("",)),
            "ways": (((0, (Setting(None),)),),),
            "ends": (None,),
            "modes": 1,
            "boxes": 1,
        })
        program = Program("cab", "zyx", (2, ["abc"]), [[way] * 3] * 3, [[], None, [("told", "c")]])
        self.assertEqual((program.modes, program.boxes, program.ends), (3, 1, ((), None, (("told", "c"),))))

    def test_more_than_the_limits(self):
        word = "abcdefghijklmnopqrstuvwxyz"
        settings = [Setting(11 - box, word) for box in range(12)]
        row = [("box", 11), ("turned", 10), ("told", word)] * 3
        program = Program(word, word, (4, [word] * 12), [[(4, settings)] * 26] * 5, [row] * 5)
        self.assertEqual((program.modes, program.boxes, program.way(4, "z")), (5, 12, (4, tuple(settings))))

    def test_later_changes_have_no_effect(self):
        arguments = long_arguments()
        program = Program(**arguments)
        arguments["begin"][1].append("a")
        arguments["begin"][1][0] = "b"
        arguments["ways"][0][0][1][0] = Setting(0, "a")
        arguments["ways"][1][0] = (0, [])
        arguments["ways"][1].append(None)
        arguments["ways"].append([])
        arguments["ends"][1].clear()
        arguments["ends"][0] = []
        self.assertEqual(str(program), LONG)
        self.assertEqual((program.modes, program.boxes), (2, 2))

    def test_arguments_are_not_changed(self):
        arguments = long_arguments()
        before = copy.deepcopy(arguments)
        Program(**arguments)
        self.assertEqual(arguments, before)

    def test_not_iterable(self):
        with self.assertRaises(TypeError):
            iter(Program.read(MIRROR))


class WrongArgumentsTest(unittest.TestCase):
    def check(self, word, arguments):
        self.assertEqual(outcome(Program, **arguments), ("InvalidProgram", {"word": word}), arguments)

    def test_the_base_is_right(self):
        self.assertEqual(str(Program(**long_arguments())), LONG)

    def test_one_wrong_argument(self):
        for name, values in WRONG.items():
            for value in values:
                self.check(name, changed(**{name: value}))

    def test_two_wrong_arguments(self):
        for one, other in itertools.combinations(PARAMETERS, 2):
            for first, second in itertools.product(WRONG[one], WRONG[other]):
                self.check(one, changed(**{one: first, other: second}))

    def test_more_wrong_arguments(self):
        for at, name in enumerate(PARAMETERS):
            for value in (None, 0, "", [], (), "A"):
                self.check(name, changed(**{word: value for word in PARAMETERS[at:]}))

    def test_any_values(self):
        right = {"signs": ("ab",), "letters": ("xy", "yx", "ab"), "ways": (), "begin": (), "ends": ()}
        # Right by themselves, but then other arguments do not go with them.
        other = {"signs": {"a": "ways", "b": "ways", "c": "ways", "x": "ways", "y": "ways", "z": "ways", "xy": "ways",
                           "yx": "ways"},
                 "letters": {"a": "ways", "b": "ways", "c": "ways", "x": "ways", "y": "ways", "z": "ways"}}
        for name in PARAMETERS:
            for value in any_values():
                if isinstance(value, str) and value in right[name]:
                    Program(**changed(**{name: value}))
                elif isinstance(value, str) and value in other.get(name, {}):
                    self.check(other[name][value], changed(**{name: value}))
                else:
                    self.check(name, changed(**{name: value}))

    def test_any_values_farther_inside(self):
        settings = [Setting(0), Setting(1)]
        for value in any_values():
            is_mode = type(value) is int and 0 <= value < 2
            is_text = type(value) is str and all(sign in ("a", "b") for sign in value)
            is_setting = isinstance(value, Setting)
            lacks_settings = value in ((0, ()), (0, []), (0, [Setting(0)]))
            cases = [
                ("ways", is_mode, {"ways": with_way(1, 1, (value, settings))}),
                ("begin" if lacks_settings else "ways", False, {"ways": with_way(1, 1, value)}),
                ("ways", is_setting, {"ways": with_setting(1, 1, 1, value)}),
                ("begin", is_mode, {"begin": (value, ["a", ""])}),
                ("begin", is_text, {"begin": (0, ["a", value])}),
                ("ends", is_mode, {"ends": with_part(("box", value))}),
                ("ends", is_mode, {"ends": with_part(("turned", value))}),
                ("ends", is_text and value != "", {"ends": with_part(("told", value))}),
                ("ends", False, {"ends": with_part((value, 0))}),
                ("ends", False, {"ends": with_part((value, "a"))}),
            ]
            for word, is_right, changes in cases:
                if is_right:
                    Program(**changed(**changes))
                else:
                    self.check(word, changed(**changes))

    def test_signs_that_do_not_go_with_the_texts(self):
        settings = [Setting(0, "a"), Setting(1, "", "a")]
        ways = [[(0, settings)] * 2]
        self.check("ways", changed(signs="b", ways=ways, begin=(0, ["a", "a"]), ends=[[("told", "a")]]))
        ways = [[(0, [Setting(0), Setting(1)])] * 2]
        self.check("begin", changed(signs="b", ways=ways, begin=(0, ["a", "a"]), ends=[[("told", "a")]]))
        self.check("ends", changed(signs="b", ways=ways, begin=(0, ["b", ""]), ends=[[("told", "a")]]))
        Program(**changed(signs="b", ways=ways, begin=(0, ["b", ""]), ends=[[("told", "b")]]))

    def test_numbers_of_settings_are_told_by_begin(self):
        for mode, letter in itertools.product((0, 1), repeat=2):
            for settings in ([], [Setting(0)], [Setting(0), Setting(1), Setting(0)]):
                self.check("begin", changed(ways=with_way(mode, letter, (0, settings))))
                self.check("begin", changed(ways=with_way(mode, letter, (0, settings)), ends=None))

    def test_numbers_of_sources_are_told_by_begin(self):
        for mode, letter, box in itertools.product((0, 1), repeat=3):
            for source in (2, 3, 99, 10**40):
                for setting in (Setting(source), Setting(source, "a", "b", True)):
                    self.check("begin", changed(ways=with_setting(mode, letter, box, setting)))
            for setting in (Setting(1), Setting(0), Setting(None)):
                Program(**changed(ways=with_setting(mode, letter, box, setting)))

    def test_ways_are_told_ahead_of_their_numbers(self):
        ways = with_way(0, 0, (0, [Setting(0)]))
        ways[1][1] = (2, [Setting(0), Setting(1)])
        self.check("ways", changed(ways=ways))
        self.check("ways", changed(ways=with_way(0, 0, (0, [Setting(0, "c")]))))
        self.check("ways", changed(ways=with_way(0, 0, (0, [Setting(7, "c"), Setting(1)])), begin=None))

    def test_one_box_and_one_mode(self):
        base = {"signs": "a", "letters": "x", "begin": (0, [""]), "ways": [[(0, [Setting(0)])]], "ends": [[]]}
        Program(**base)
        self.check("begin", {**base, "ways": [[(0, [Setting(1)])]]})
        self.check("ways", {**base, "ways": [[(1, [Setting(0)])]]})
        self.check("begin", {**base, "begin": (1, [""])})
        self.check("ends", {**base, "ends": [[("box", 1)]]})
        self.check("ends", {**base, "ends": []})

    def test_at_least_one_box(self):
        ways = [[(0, []), (0, ())]]
        self.check("begin", {"signs": "a", "letters": "xy", "begin": (0, []), "ways": ways, "ends": [[]]})
        self.check("begin", {"signs": "a", "letters": "xy", "begin": (0, ()), "ways": ways, "ends": None})

    def test_nothing_is_changed_by_a_refusal(self):
        arguments = changed(ends=[None, [("box", 2)]])
        before = copy.deepcopy(arguments)
        with self.assertRaises(InvalidProgram):
            Program(**arguments)
        self.assertEqual(arguments, before)


if __name__ == "__main__":
    unittest.main()
