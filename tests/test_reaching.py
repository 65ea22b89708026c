"""[21]: whether a text is ever written, and [1] to [4] as far as they speak of that."""

import itertools
import unittest

from growntexts.programs import Program
from growntexts.reaching import first_input, reaches
from growntexts.settings import Setting
from growntexts.shapes import Shape, within
from growntexts.shaping import behind, joined, respelt, turned
from growntexts.writing import write
from tests.samples import LONG, MIRROR, OTHER, TWINS, any_values, outcome, program_of
from tests.twins import Chance, doubled, inputs, reach_of, some_program, some_programs, some_small_programs, twins_of


def first_inputs(program, longest):
    """For each text that is written for an input of at most so many letters the first of these inputs."""
    found = {}
    for text in inputs(program.letters, longest):
        told = write(program, text)
        if told is not None:
            found.setdefault(told, text)
    return found


def all_texts(signs, longest):
    return ["".join(row) for many in range(longest + 1) for row in itertools.product(signs, repeat=many)]


class ReachingCase(unittest.TestCase):
    def check(self, program, text, found, longest):
        """Whether an answer is right as far as inputs of so many letters tell."""
        answer = first_input(program, text)
        self.assertIs(reaches(program, text), answer is not None)
        if text in found or answer is None:
            self.assertEqual(answer, found.get(text), (str(program), text))
        else:
            self.assertGreater(len(answer), longest)
            self.assertEqual(write(program, answer), text)
        return answer


class AnswersTest(ReachingCase):
    def test_the_examples(self):
        mirror, other = Program.read(MIRROR), Program.read(OTHER)
        self.assertEqual((first_input(mirror, "abba"), reaches(mirror, "abab"), first_input(other, "abab")), ("xy", False, "xy"))
        self.assertEqual((first_input(text="abba", program=mirror), reaches(text="abba", program=mirror)), ("xy", True))

    def test_all_short_texts(self):
        for program in some_small_programs(111, 100):
            longest = reach_of(program.letters)
            found = first_inputs(program, longest)
            for text in all_texts(program.signs, {1: 8, 2: 5, 3: 3}[len(program.signs)]):
                self.check(program, text, found, longest)

    def test_texts_that_are_written(self):
        for program in some_small_programs(112, 100):
            longest = reach_of(program.letters)
            found = first_inputs(program, longest)
            for text in [text for text in found if len(text) <= 8]:
                self.check(program, text, found, longest)

    def test_longer_texts(self):
        mirror = Program.read(MIRROR)
        self.assertEqual(first_input(mirror, "a" * 12 + "b" * 24 + "a" * 12), "x" * 12 + "y" * 12)
        self.assertIsNone(first_input(mirror, "a" * 12 + "b" * 25 + "a" * 12))

    def test_twins(self):
        for program in some_programs(113, 12):
            texts = all_texts(program.signs, 4)
            answers = [first_input(program, text) for text in texts]
            for twin in list(twins_of(program))[-4:]:
                self.assertEqual([first_input(twin, text) for text in texts], answers)
            self.assertEqual([first_input(turned(program), text[::-1]) for text in texts], answers)
            self.assertEqual([first_input(respelt(program, program.signs), text) for text in texts], answers)


class EdgesTest(ReachingCase):
    def test_the_empty_text_and_the_empty_input(self):
        mirror = Program.read(MIRROR)
        self.assertEqual((first_input(mirror, ""), reaches(mirror, "")), ("", True))
        program = program_of("program signs a letters xy", "begin 0 a", "way 0 x 0 a.0.", "way 0 y 0 .-.", "end 0 0")
        self.assertEqual((first_input(program, ""), first_input(program, "a"), first_input(program, "aa")), ("y", "", "x"))
        never = program_of("program signs a letters x", "begin 0 a", "way 0 x 0 a.0.", "end 0 0")
        self.assertEqual((first_input(never, ""), reaches(never, "")), (None, False))

    def test_refused_is_not_the_empty_text(self):
        program = program_of("program signs a letters x", "begin 0 -", "way 0 x 1 .0.", "way 1 x 1 a.0.", "end 0 none", "end 1 0")
        self.assertEqual((first_input(program, ""), first_input(program, "a")), ("x", "xx"))
        program = program_of("program signs a letters x", "begin 0 -", "way 0 x 0 a.0.", "end 0 none")
        self.assertEqual([reaches(program, "a" * many) for many in range(9)], [False] * 9)

    def test_the_first_of_several_inputs(self):
        for letters in ("xy", "yx"):
            program = Program("a", letters, (0, [""]), [[(0, [Setting(0, "a")]), (0, [Setting(0, "", "a")])]], [[("box", 0)]])
            self.assertEqual([first_input(program, "a" * many) for many in range(5)], [letters[0] * many for many in range(5)])
        # A shorter one is ahead, whatever its letters are.
        program = program_of("program signs a letters xy", "begin 0 -", "way 0 x 0 a.0.", "way 0 y 0 aaa.0.", "end 0 0")
        self.assertEqual([first_input(program, "a" * many) for many in (3, 4, 5, 6)], ["y", "xy", "xxy", "yy"])

    def test_texts_that_only_a_long_input_writes(self):
        # A round of six modes: only the last one writes.
        lines = ["program signs a letters xy", "begin 0 -"]
        for mode in range(6):
            lines += [f"way {mode} x {(mode + 1) % 6} {'a' if mode == 0 else ''}.0.", f"way {mode} y {mode} .~0."]
        program = program_of(*lines, *[f"end {mode} {'0' if mode == 5 else 'none'}" for mode in range(6)])
        self.assertEqual(first_input(program, "a"), "x" * 5)
        self.assertEqual(first_input(program, "a" * 8), "x" * 47)
        self.assertIsNone(first_input(program, ""))

    def test_texts_that_shrink_on_the_way(self):
        # Box 0 must grow beyond all texts before it is set to told signs.
        lines = ["program signs ab letters xy", "begin 0 -"]
        for mode in range(5):
            lines += [f"way {mode} x {mode + 1} aaa.0.bbb", f"way {mode} y {mode} bbb.0."]
        lines += ["way 5 x 0 ab.-.", "way 5 y 5 .0.", "end 0 0"] + [f"end {mode} none" for mode in range(1, 6)]
        program = program_of(*lines)
        self.assertEqual(first_input(program, "ab"), "x" * 6)
        self.assertEqual(first_input(program, "bbbab"), "x" * 6 + "y")
        self.assertEqual(first_input(program, "bbb"), "y")
        self.assertIsNone(first_input(program, "aab"))
        # From one box to the other: what was too long is no longer there.
        program = program_of("program signs ab letters xy", "begin 0 - a", "way 0 x 0 bb.0. .1.", "way 0 y 0 .1. .-.", "end 0 0 1")
        self.assertEqual((first_input(program, "bbbba"), first_input(program, ""), first_input(program, "bba")), ("xx", "yy", "x"))

    def test_boxes_turned_about(self):
        program = program_of("program signs ab letters xyz", "begin 0 -", "way 0 x 0 a.~0.", "way 0 y 0 .~0.b", "way 0 z 0 .~0.",
                             "end 0 ~0")
        found = first_inputs(program, 8)
        for text in all_texts("ab", 6):
            self.check(program, text, found, 8)
        self.assertIsNotNone(first_input(program, "abba"))

    def test_told_parts_alone(self):
        program = program_of("program signs ab letters x", "begin 0 a", "way 0 x 1 a.0.", "way 1 x 1 a.0.", "end 0 none",
                             "end 1 =ab =a")
        self.assertEqual((first_input(program, "aba"), first_input(program, "ab"), first_input(program, "a")), ("x", None, None))

    def test_one_box_twice_and_two_boxes(self):
        program = program_of("program signs ab letters xy", "begin 0 - b", "way 0 x 0 a.0. .1.", "way 0 y 0 .1. .0.", "end 0 0 =a ~0 1")
        found = first_inputs(program, 9)
        for text in all_texts("ab", 7):
            self.check(program, text, found, 9)
        self.assertEqual([first_input(program, text) for text in ("ab", "aaab", "aab", "abb")], ["", "x", "yxy", None])

    def test_boxes_that_go_into_nothing(self):
        # Box 1 never ends, but nothing of it is written.
        program = program_of("program signs ab letters xy", "begin 0 - -", "way 0 x 0 a.0. b.1.a", "way 0 y 0 .0. a.1.b", "end 0 0")
        self.assertEqual([first_input(program, "a" * many) for many in range(9)], ["x" * many for many in range(9)])
        self.assertIsNone(first_input(program, "b"))

    def test_long_beginnings(self):
        program = behind(Program.read(TWINS), "xy" * 20)
        self.assertEqual([reaches(program, text) for text in ("", "ab", "abba", "aaaabbbb")], [False] * 4)
        still = Program(program.signs, program.letters, program.begin, [[(0, [Setting(None, "a"), Setting(1)])] * 2], [[("box", 0)]])
        self.assertEqual((first_input(still, "a"), first_input(still, "b")), ("x", None))

    def test_programs_of_this_package(self):
        mirror, long = Program.read(MIRROR), Program.read(LONG)
        found = first_inputs(joined(mirror, turned(mirror)), 5)
        for text in all_texts("ab", 6):
            self.check(joined(mirror, turned(mirror)), text, found, 5)
        some = Shape("xy", [(0, 1), (None, 1)], [1])
        held = within(mirror, some)
        self.assertEqual((first_input(held, "abba"), first_input(held, "aa"), first_input(held, "bb")), ("xy", None, "y"))
        found = first_inputs(long, 7)
        for text in all_texts("ab", 7):
            self.check(long, text, found, 7)

    def test_six_modes_two_boxes_and_eight_signs(self):
        chance = Chance(114)
        for _ in range(6):
            program = doubled(some_program(chance, "abc", "xyz", 3, 2, 2))
            found = first_inputs(program, 4)
            for text in [text for text in found if len(text) <= 8][:20] + [chance.word("abc", 8) for _ in range(20)]:
                self.check(program, text, found, 4)


class WrongArgumentsTest(unittest.TestCase):
    def test_texts(self):
        for program in (Program.read(MIRROR), Program.read(OTHER), Program.read(MIRROR.replace("signs ab", "signs abc"))):
            for value in any_values() + ["abz", "ababcb", "aB", ["a"], ("a", "b")]:
                if type(value) is not str:
                    at = 0
                else:
                    at = next((at for at, sign in enumerate(value) if sign not in program.signs), None)
                for work in (reaches, first_input):
                    if at is None:
                        self.assertEqual(outcome(work, program, value)[0], "returns")
                    else:
                        self.assertEqual(outcome(work, program, value), ("InvalidText", {"at": at}), value)

    def test_nothing_is_changed(self):
        program = Program.read(LONG)
        first = [first_input(program, text) for text in all_texts("ab", 5)]
        outcome(first_input, program, "abz")
        self.assertEqual([first_input(program, text) for text in all_texts("ab", 5)], first)
        self.assertEqual(str(program), LONG)


if __name__ == "__main__":
    unittest.main()
