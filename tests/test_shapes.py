"""[10]: shapes and programs held to them, and [1] to [4] as far as they speak of them."""

import copy
import itertools
import unittest

from growntexts.alike import parting
from growntexts.programs import Program
from growntexts.settings import Setting
from growntexts.shapes import Shape, within
from growntexts.writing import write
from tests.samples import LONG, MIRROR, OTHER, TWINS, any_values, outcome
from tests.twins import Chance, inputs, reach_of, some_program

PARAMETERS = ("letters", "rooms", "ends")
ROOMS = [(0, 1), (None, 1)]

WRONG = {
    "letters": [
        "", "xx", "xyx", "X", "xY", "x y", " ", "x\n", "x1", "-", "\u00e9", "\uff58", 0, True, None, ["x", "y"], ("x", "y"),
        [], (),
    ],
    "rooms": [
        None, 0, True, "", "xy", [], (), {}, {0: 1}, [[]], [()], [None], [0], [True], ["xy"], [(0,)], [(0, 0, 0)],
        [(0, 1)], [(1, 0)], [(2, 0), (0, 0)], [(0, 0), (0, 2)], [(0, 0), (0, -1)], [(0, 0), (True, 0)],
        [(0, 0), (0, False)], [(0, 0), ("0", 0)], [(0, 0), ((0,), 0)], [(0, 0), ([], 0)], [(0, 0), None],
        [(0, 0), (0,)], [(0,), (0, 0)], [(0, 0), (0, 0, 0)], [(0, 0), 0], [(0, 0), {0: 0, 1: 0}], (0, 0), [0, 0],
        [(0, 0), "00"], [(10**40, 0), (0, 0)], [[[0, 0]]], [(0, 0), Setting(0)], Setting(0),
    ],
    "ends": [
        None, 0, 1, True, "", "0", {}, {0: 1}, [2], [-1], [0, 2], [0, 1, 2], [0, 0], [1, 0, 1], (1, 1), [True], [False],
        [0, True], [None], ["0"], [(0,)], [[0]], [[]], [()], [10**40], [0, 1, None], Setting(0), [Setting(0)],
    ],
}


def arguments(**changes):
    return {"letters": "xy", "rooms": list(ROOMS), "ends": [1, 0], **changes}


def is_let(letters, rooms, ends, text):
    """Whether a shape lets an input, told anew: by all rooms that can be left for an end."""
    rooms_then = {0}
    for letter in text:
        rooms_then = {rooms[room][letters.index(letter)] for room in rooms_then} - {None}
    return bool(rooms_then & set(ends))


def some_shape(chance, letters):
    many = 1 + chance.below(3)
    rooms = [[chance.one_of([None] + list(range(many)) * 2) for _ in letters] for _ in range(many)]
    ends = [room for room in range(many) if chance.below(3) > 0]
    return Shape(letters, rooms, ends[::-1])


def states_of(program, shape):
    """The pairs of a mode and a room that come about, and whether some input leads nowhere."""
    found = {(program.begin[0], 0)}
    leads_nowhere = False
    for _ in range(program.modes * len(shape.rooms)):
        for mode, room in list(found):
            for at, letter in enumerate(program.letters):
                target = shape.rooms[room][at]
                if target is None:
                    leads_nowhere = True
                else:
                    found.add((program.way(mode, letter)[0], target))
    return found, leads_nowhere


class ShapeTest(unittest.TestCase):
    def test_attributes(self):
        shape = Shape("xy", [[0, 1], (None, 1)], [1, 0])
        self.assertEqual(vars(shape), {"letters": "xy", "rooms": ((0, 1), (None, 1)), "ends": (0, 1)})
        self.assertEqual([type(one) for one in (shape.rooms, shape.rooms[0], shape.rooms[1], shape.ends)], [tuple] * 4)
        shape = Shape(ends=(), rooms=((None,),), letters="z")
        self.assertEqual(vars(shape), {"letters": "z", "rooms": ((None,),), "ends": ()})

    def test_ends_ascend(self):
        rooms = [[0]] * 12
        for ends in ([11, 2, 10, 0], (0, 2, 10, 11), [10, 11, 0, 2]):
            self.assertEqual(Shape("x", rooms, ends).ends, (0, 2, 10, 11))

    def test_later_changes_have_no_effect(self):
        rooms, ends = [[0, 1], [None, 1]], [1, 0]
        shape = Shape("xy", rooms, ends)
        rooms[1][0] = 0
        rooms[0].append(None)
        rooms.append([0, 0])
        ends.clear()
        self.assertEqual((shape.rooms, shape.ends), (((0, 1), (None, 1)), (0, 1)))
        self.assertFalse(shape.lets("yx"))
        self.assertTrue(shape.lets("x"))

    def test_arguments_are_not_changed(self):
        rooms, ends = [[0, 1], [None, 1]], [1, 0]
        Shape("xy", rooms, ends)
        self.assertEqual((rooms, ends), ([[0, 1], [None, 1]], [1, 0]))

    def test_more_than_the_limits(self):
        word = "abcdefghijklmnopqrstuvwxyz"
        rooms = [[(room + at) % 9 for at in range(26)] for room in range(9)]
        shape = Shape(word, rooms, [8, 4])
        self.assertTrue(shape.lets("e"))
        self.assertTrue(shape.lets("bcdd" * 9 + "i"))
        self.assertFalse(shape.lets("b"))

    def test_not_iterable(self):
        with self.assertRaises(TypeError):
            iter(Shape("x", [[0]], [0]))


class WrongArgumentsTest(unittest.TestCase):
    def check(self, word, changes):
        self.assertEqual(outcome(Shape, **arguments(**changes)), ("InvalidShape", {"word": word}), changes)

    def test_one_wrong_argument(self):
        Shape(**arguments())
        for name in PARAMETERS:
            for value in WRONG[name]:
                self.check(name, {name: value})

    def test_two_and_three_wrong_arguments(self):
        for one, other in itertools.combinations(PARAMETERS, 2):
            for first, second in itertools.product(WRONG[one], WRONG[other]):
                self.check(one, {one: first, other: second})
        for value in (None, 0, "", [], [0, 0], ("a",), Setting(0)):
            if value != []:
                self.check("letters", {name: value for name in PARAMETERS})

    def test_any_values(self):
        for value in any_values():
            if isinstance(value, str) and value in ("xy", "yx", "ab"):
                Shape(**arguments(letters=value))
            elif isinstance(value, str) and value in ("a", "b", "c", "x", "y", "z"):
                # Right by itself, but the rooms do not go with it.
                self.check("rooms", {"letters": value})
            else:
                self.check("letters", {"letters": value})
            self.check("rooms", {"rooms": value})
            if isinstance(value, (list, tuple)) and [type(one) for one in value] in ([], [int]):
                Shape(**arguments(ends=value))
            else:
                self.check("ends", {"ends": value})

    def test_any_values_farther_inside(self):
        for value in any_values():
            is_room = type(value) is int and 0 <= value < 2
            if is_room or value is None:
                Shape(**arguments(rooms=[(0, 0), (0, value)]))
            else:
                self.check("rooms", {"rooms": [(0, 0), (0, value)]})
                self.check("rooms", {"rooms": [(value, 0), (0, 1)]})
            if type(value) is int and value in (0, 1):
                Shape(**arguments(ends=[value]))
            else:
                self.check("ends", {"ends": [value]})
            if value not in ([0, 0], (0, 0)) or type(value[0]) is bool:
                self.check("rooms", {"rooms": [(0, 0), value]})

    def test_rooms_have_as_many_things_as_letters(self):
        for letters in ("x", "xyz"):
            self.check("rooms", {"letters": letters})
        self.check("rooms", {"rooms": [(0, 1), (None, 1, 0)]})
        self.check("rooms", {"rooms": [(0, 1), (None,)]})

    def test_nothing_is_changed_by_a_refusal(self):
        changes = arguments(rooms=[[0, 1], [None, 2]], ends=[1, 0, 1])
        before = copy.deepcopy(changes)
        self.assertEqual(outcome(Shape, **changes), ("InvalidShape", {"word": "rooms"}))
        self.assertEqual(changes, before)


class LetsTest(unittest.TestCase):
    def test_the_example(self):
        some = Shape("xy", ROOMS, [0, 1])
        self.assertEqual((some.lets("xxy"), some.lets("yx")), (True, False))

    def test_all_inputs(self):
        chance = Chance(11)
        for _ in range(60):
            letters = chance.one_of(["x", "xy", "yx", "zxy"])
            shape = some_shape(chance, letters)
            for text in inputs(letters, reach_of(letters)):
                self.assertIs(shape.lets(text), is_let(letters, shape.rooms, shape.ends, text))

    def test_one_room(self):
        self.assertEqual([Shape("x", [[0]], [0]).lets("x" * many) for many in (0, 1, 40)], [True] * 3)
        self.assertEqual([Shape("x", [[None]], [0]).lets("x" * many) for many in (0, 1, 2)], [True, False, False])
        self.assertEqual([Shape("x", [[0]], []).lets("x" * many) for many in (0, 1, 2)], [False] * 3)
        self.assertTrue(Shape("xy", [[0, None]], [0]).lets(text="x" * 40))

    def test_behind_none_it_leads_nowhere(self):
        shape = Shape("xy", [[None, 1], [0, 1]], [0, 1])
        for text in ("x", "xy", "xyy", "yxx", "yxxyy"):
            self.assertFalse(shape.lets(text))
        for text in ("", "y", "yx", "yyxy"):
            self.assertTrue(shape.lets(text))

    def test_the_last_room_is_no_number_from_behind(self):
        # -1 would be the last room, and so would None be room 0 if it were taken for 0.
        shape = Shape("x", [[1], [None]], [0])
        self.assertEqual([shape.lets("x" * many) for many in range(4)], [True, False, False, False])

    def test_no_input(self):
        # Where the input leads nowhere, what stands farther behind is looked at, too.
        for shape in (Shape("xy", ROOMS, [0, 1]), Shape("yx", [[None, None]], [])):
            for value in any_values() + ["xz", "yxxxz", "yxZ", "zx", ["x"], ("x",)]:
                if type(value) is not str:
                    self.assertEqual(outcome(shape.lets, value), ("InvalidInput", {"at": 0}), value)
                    continue
                foreign = [at for at, sign in enumerate(value) if sign not in ("x", "y")]
                if foreign:
                    self.assertEqual(outcome(shape.lets, value), ("InvalidInput", {"at": foreign[0]}), value)
                else:
                    self.assertIs(type(shape.lets(value)), bool)


class WithinTest(unittest.TestCase):
    def check(self, program, shape, longest):
        made = within(program, shape)
        found, leads_nowhere = states_of(program, shape)
        self.assertEqual(made.modes, len(found) + leads_nowhere)
        self.assertEqual(made.letters, program.letters)
        self.assertEqual(Program.read(str(made)), made)
        for text in inputs(program.letters, longest):
            expected = write(program, text) if is_let(shape.letters, shape.rooms, shape.ends, text) else None
            self.assertEqual(write(made, text), expected, text)

    def test_the_example(self):
        mirror, other = Program.read(MIRROR), Program.read(OTHER)
        some = Shape("xy", ROOMS, [0, 1])
        self.assertEqual(parting(within(mirror, some), within(other, some)), "xy")
        self.assertEqual(within(program=mirror, shape=some), within(mirror, some))
        self.assertEqual(within(mirror, some).modes, 3)
        self.check(mirror, some, 6)

    def test_all_inputs(self):
        chance = Chance(12)
        for _ in range(80):
            letters = chance.one_of(["x", "xy", "yx", "zxy"])
            program = some_program(chance, "ab", letters, 1 + chance.below(3), 1 + chance.below(2), chance.below(4))
            self.check(program, some_shape(chance, letters), reach_of(letters) - 1)

    def test_a_program_within_a_shape_is_held_to_another_one(self):
        once = within(Program.read(LONG), Shape("xy", ROOMS, [0, 1]))
        twice = Shape("xy", [[1, 1], [0, None]], [0])
        self.check(once, twice, 6)

    def test_modes(self):
        mirror, program = Program.read(MIRROR), Program.read(LONG)
        cases = [
            (mirror, Shape("xy", [[0, 0]], [0]), 1),
            (mirror, Shape("xy", [[0, None]], [0]), 2),
            (mirror, Shape("xy", [[None, None]], []), 2),
            (mirror, Shape("xy", [[0, 0], [0, 0], [None, None]], [0]), 1),
            (mirror, Shape("xy", [[1, 1], [2, 2], [0, 0]], [0]), 3),
            (program, Shape("xy", [[0, 0]], [0]), 2),
            (program, Shape("xy", [[0, None]], [0]), 2),
            (program, Shape("xy", [[1, 1], [0, 0]], [0]), 4),
            (program, Shape("xy", [[0, 1], [1, 0]], [0]), 2),
        ]
        for one, shape, modes in cases:
            self.assertEqual(within(one, shape).modes, modes)
            self.check(one, shape, 6)

    def test_no_ends(self):
        made = within(Program.read(TWINS), Shape("xy", [[0, 0]], []))
        self.assertEqual([write(made, text) for text in ("", "x", "xy")], [None] * 3)

    def test_what_the_program_refuses_stays_refused(self):
        program = Program.read(LONG)
        made = within(program, Shape("xy", [[0, 0]], [0]))
        self.assertEqual([write(made, text) for text in ("", "y", "yy")], [write(program, ""), None, write(program, "yy")])

    def test_nothing_is_changed(self):
        program, shape = Program.read(LONG), Shape("xy", ROOMS, [0, 1])
        first = str(within(program, shape))
        self.assertEqual(str(within(program, shape)), first)
        self.assertEqual(str(program), LONG)
        self.assertEqual(vars(shape), vars(Shape("xy", ROOMS, [0, 1])))

    def test_unlike_letters(self):
        mirror = Program.read(MIRROR)
        for letters in ("yx", "x", "y", "xyz", "xz", "ab"):
            shape = Shape(letters, [[0] * len(letters)], [0])
            self.assertEqual(outcome(within, mirror, shape), ("InvalidPair", {"word": "letters"}))


if __name__ == "__main__":
    unittest.main()
