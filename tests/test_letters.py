"""[19]: letters that never matter and that can be exchanged, and [1] to [4] as far as they speak of them."""

import itertools
import unittest

from growntexts.letters import idle, idle_break, swap_break, swapping
from growntexts.programs import Program
from growntexts.settings import Setting
from growntexts.shapes import Shape, within
from growntexts.shaping import behind, joined, recoded, skipping, turned
from growntexts.writing import write
from tests.samples import LONG, MIRROR, OTHER, TWINS, any_values, outcome, program_of
from tests.twins import Chance, doubled, inputs, some_program, some_programs, twins_of


class Written:
    """What a program writes, each input once."""

    def __init__(self, program):
        self.program = program
        self.known = {}

    def __call__(self, text):
        if text not in self.known:
            self.known[text] = write(self.program, text)
        return self.known[text]


def parted_by_short_inputs(program, one, other, longest):
    """Whether some u and v of at most so many letters together part u, one, v from u, other, v."""
    written = Written(program)
    for text in inputs(program.letters, longest):
        for at in range(len(text) + 1):
            if written(text[:at] + one + text[at:]) != written(text[:at] + other + text[at:]):
                return True
    return False


def longest_for(program):
    return {1: 7, 2: 5, 3: 4}[len(program.letters)]


class LettersCase(unittest.TestCase):
    def check_break(self, program, answer, one, other):
        """Whether an answer is a break of two inputs, or rightly none as far as short inputs tell."""
        if answer is None:
            self.assertFalse(parted_by_short_inputs(program, one, other, longest_for(program)), (str(program), one, other))
        else:
            self.assertIs(type(answer), tuple)
            u, v = answer
            self.assertNotEqual(write(program, u + one + v), write(program, u + other + v))

    def check(self, program):
        """Whether all answers fit to each other and to all short inputs."""
        letters = program.letters
        found = idle(program)
        self.assertIs(type(found), tuple)
        breaks = [idle_break(program, letter) for letter in letters]
        for letter, answer in zip(letters, breaks):
            self.check_break(program, answer, letter, "")
        self.assertEqual(found, tuple(letter for letter, answer in zip(letters, breaks) if answer is None))
        pairs = []
        for one, other in itertools.product(letters, repeat=2):
            answer = swap_break(program, one, other)
            self.check_break(program, answer, one + other, other + one)
            if letters.index(one) < letters.index(other) and answer is None:
                pairs.append((one, other))
            if one == other:
                self.assertIsNone(answer)
        self.assertEqual(swapping(program), tuple(pairs))
        self.assertTrue(all(type(pair) is tuple for pair in swapping(program)))
        return found, tuple(pairs)


class AnswersTest(LettersCase):
    def test_the_examples(self):
        mirror = Program.read(MIRROR)
        self.assertEqual((idle(mirror), swapping(mirror)), ((), (("x", "y"),)))
        self.assertEqual((swapping(turned(mirror)), swap_break(mirror, "x", "x")), ((("x", "y"),), None))
        self.check(mirror)
        self.assertEqual((idle(program=mirror), swapping(program=mirror)), ((), (("x", "y"),)))
        self.assertEqual(swap_break(other="x", one="x", program=mirror), None)
        self.check_break(mirror, idle_break(letter="x", program=mirror), "x", "")

    def test_programs_made_by_counting(self):
        for program in some_programs(91, 120):
            self.check(program)

    def test_programs_that_do_nothing_at_a_letter(self):
        found = []
        for program in some_programs(92, 40):
            for letter in program.letters:
                quiet, pairs = self.check(skipping(program, letter))
                self.assertIn(letter, quiet)
                # What never matters can be exchanged with all.
                for other in program.letters:
                    pair = tuple(sorted((letter, other), key=program.letters.index))
                    self.assertTrue(other == letter or pair in pairs)
                found.append(quiet)
        self.assertGreater(len([one for one in found if len(one) == 1]), 10)

    def test_letters_that_do_the_same_can_be_exchanged(self):
        many = 0
        for program in some_programs(93, 60):
            if len(program.letters) > 1:
                same = recoded(program, program.letters[0] * 2 + program.letters[2:])
                pair = tuple(program.letters[:2])
                found, pairs = self.check(same)
                self.assertIn(pair, pairs)
                many += pair[0] not in found
        self.assertGreater(many, 10)

    def test_alike_programs_have_the_same_answers(self):
        for program in some_programs(94, 12):
            answers = (idle(program), swapping(program))
            for twin in list(twins_of(program))[-3:]:
                self.assertEqual((idle(twin), swapping(twin)), answers)
            self.assertEqual((idle(turned(program)), swapping(turned(program))), answers)

    def test_six_modes_and_two_boxes(self):
        chance = Chance(95)
        for _ in range(4):
            program = doubled(some_program(chance, "abc", "xyz", 3, 2, 3))
            self.assertEqual(idle(skipping(program, "y"))[:1], ("y",))
            self.assertIn(("x", "y"), swapping(recoded(program, "xxz")))

    def test_texts_that_do_not_depend_on_a_letter(self):
        # Box 1 goes into nothing.
        program = program_of("program signs ab letters xyz", "begin 0 - -", "way 0 x 0 a.0. .1.", "way 0 y 0 .0. b.1.",
                             "way 0 z 0 .0. .0.", "end 0 0 ~0")
        self.assertEqual(self.check(program), (("y", "z"), (("x", "y"), ("x", "z"), ("y", "z"))))
        # All is told: nothing matters.
        program = program_of("program signs ab letters yx", "begin 0 -", "way 0 y 0 a.0.", "way 0 x 0 .0.b", "end 0 =ab")
        self.assertEqual(self.check(program), (("y", "x"), (("y", "x"),)))

    def test_all_is_refused(self):
        program = program_of("program signs ab letters xy", "begin 0 -", "way 0 x 1 a.0.", "way 0 y 0 .0.b", "way 1 x 0 b.0.",
                             "way 1 y 1 .0.", "end 0 none", "end 1 none")
        self.assertEqual(self.check(program), (("x", "y"), (("x", "y"),)))
        for letter in "xy":
            self.assertIsNone(idle_break(program, letter))

    def test_letters_that_matter_only_where_an_input_is_refused(self):
        # An even number of x must be read; y never matters.
        program = program_of("program signs a letters xy", "begin 0 -", "way 0 x 1 .0.", "way 0 y 0 .0.", "way 1 x 0 .0.",
                             "way 1 y 1 .0.", "end 0 0", "end 1 none")
        self.assertEqual(self.check(program), (("y",), (("x", "y"),)))
        # The first letter must be y.
        some = Shape("xy", [(None, 1), (1, 1)], [1])
        held = within(program_of("program signs a letters xy", "begin 0 a", "way 0 x 0 .0.", "way 0 y 0 .~0.", "end 0 0"), some)
        self.assertEqual(self.check(held), ((), ()))
        # The empty text is not the same as refusing.
        program = program_of("program signs a letters xy", "begin 0 -", "way 0 x 1 .0.", "way 0 y 0 .0.", "way 1 x 1 .0.",
                             "way 1 y 1 .0.", "end 0 none", "end 1")
        self.assertEqual(self.check(program), (("y",), (("x", "y"),)))

    def test_letters_that_matter_late(self):
        # z matters only behind xxxxx, and only if yy follows.
        ways = []
        settings = [Setting(0)]
        for mode in range(5):
            ways.append([(mode + 1, settings), (mode, settings), (mode, settings)])
        ways.append([(5, settings), (6, settings), (7, settings)])
        ways.append([(6, settings), (6, settings), (6, settings)])
        ways.append([(7, settings), (8, settings), (7, settings)])
        ways.append([(8, settings), (6, settings), (8, settings)])
        rows = [[]] * 9
        rows[8] = [("told", "a")]
        program = Program("a", "xyz", (0, [""]), ways, rows)
        self.assertEqual(idle(program), ())
        self.check_break(program, idle_break(program, "z"), "z", "")
        self.check_break(program, swap_break(program, "y", "z"), "yz", "zy")
        self.check_break(program, swap_break(program, "z", "y"), "zy", "yz")
        self.assertIsNotNone(idle_break(program, "z"))
        self.assertIsNone(swap_break(program, "z", "z"))

    def test_exchanging_where_the_order_of_signs_matters(self):
        # In other x and y cannot be exchanged, as box 1 goes wrong by one setting.
        self.assertEqual(self.check(Program.read(OTHER)), ((), ()))
        self.assertEqual(self.check(Program.read(TWINS)), ((), (("x", "y"),)))
        self.check(Program.read(LONG))
        program = program_of("program signs ab letters zxy", "begin 0 -", "way 0 z 0 .0.a", "way 0 x 0 .0.aa", "way 0 y 0 .0.b",
                             "end 0 0")
        self.assertEqual(self.check(program), ((), (("z", "x"),)))
        program = program_of("program signs ab letters yxz", "begin 0 -", "way 0 y 0 .0.a", "way 0 x 0 b.0.", "way 0 z 0 a.0.a",
                             "end 0 0")
        self.assertEqual(self.check(program), ((), (("y", "x"), ("y", "z"))))

    def test_turning_about(self):
        program = program_of("program signs ab letters xyz", "begin 0 ab", "way 0 x 0 .~0.", "way 0 y 0 a.0.a", "way 0 z 0 a.0.",
                             "end 0 0")
        self.assertEqual(self.check(program), ((), (("x", "y"), ("y", "z"))))
        # What is the same either way about does not change by turning.
        program = program_of("program signs ab letters xy", "begin 0 a", "way 0 x 0 .~0.", "way 0 y 0 b.0.b", "end 0 0")
        self.assertEqual(self.check(program), (("x",), (("x", "y"),)))

    def test_one_letter(self):
        one = program_of("program signs a letters x", "begin 0 -", "way 0 x 0 a.0.", "end 0 0")
        self.assertEqual(self.check(one), ((), ()))
        self.assertEqual(idle_break(one, "x"), ("", ""))
        still = program_of("program signs a letters x", "begin 0 a", "way 0 x 0 .~0.", "end 0 0")
        self.assertEqual(self.check(still), (("x",), ()))

    def test_long_beginnings(self):
        program = behind(Program.read(TWINS), "xyyx" * 10)
        self.check(program)
        self.assertEqual((idle(program), swapping(program)), ((), (("x", "y"),)))
        mirror = program_of("program signs ab letters xy", "begin 0 ab", "way 0 x 0 a.0.", "way 0 y 0 .0.", "end 0 0")
        self.assertEqual(self.check(joined(mirror, turned(mirror))), (("y",), (("x", "y"),)))


class WrongArgumentsTest(unittest.TestCase):
    def setUp(self):
        self.program = Program.read(OTHER)

    def test_letters(self):
        for value in any_values() + ["xy", "yx", "X", "", ["x"], ("x",)]:
            is_letter = type(value) is str and value in ("x", "y")
            if is_letter:
                self.assertEqual(outcome(idle_break, self.program, value)[0], "returns")
                self.assertEqual(outcome(swap_break, self.program, value, "y")[0], "returns")
                continue
            self.assertEqual(outcome(idle_break, self.program, value), ("InvalidInput", {"at": 0}))
            self.assertEqual(outcome(swap_break, self.program, value, "x"), ("InvalidInput", {"at": 0}))
            self.assertEqual(outcome(swap_break, self.program, "x", value), ("InvalidInput", {"at": 1}))
            self.assertEqual(outcome(swap_break, self.program, value, value), ("InvalidInput", {"at": 0}))

    def test_the_first_letter_is_told_first(self):
        for one, other in itertools.product(any_values(), ["z", None, 3, [], "xy", ""]):
            if type(one) is not str or one not in ("x", "y"):
                self.assertEqual(outcome(swap_break, self.program, one, other), ("InvalidInput", {"at": 0}))
            else:
                self.assertEqual(outcome(swap_break, self.program, one, other), ("InvalidInput", {"at": 1}))

    def test_nothing_is_changed(self):
        first = (idle(self.program), swapping(self.program), idle_break(self.program, "x"), swap_break(self.program, "x", "y"))
        outcome(swap_break, self.program, "x", 3)
        again = (idle(self.program), swapping(self.program), idle_break(self.program, "x"), swap_break(self.program, "x", "y"))
        self.assertEqual(again, first)
        self.assertEqual(str(self.program), OTHER)


if __name__ == "__main__":
    unittest.main()
