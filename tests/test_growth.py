"""[20]: how long texts grow, and [1] to [4] as far as they speak of that."""

import math
import unittest
from fractions import Fraction

from growntexts.growth import greatest, longest, shortest, slope
from growntexts.programs import Program
from growntexts.shapes import Shape, within
from growntexts.shaping import behind, joined, skipping, turned
from growntexts.writing import write
from tests.samples import LONG, MIRROR, OTHER, TWINS, program_of
from tests.twins import Chance, doubled, inputs, reach_of, some_program, some_small_programs


def lengths_of(program, longest_input):
    """For each number of letters the lengths of all texts that are written."""
    found = [[] for _ in range(longest_input + 1)]
    for text in inputs(program.letters, longest_input):
        told = write(program, text)
        if told is not None:
            found[len(text)].append(len(told))
    return found


def slope_by_growth(program):
    """The greatest growth over sixty letters, when all that is passing is over.

    60 is a multiple of the lengths of the rounds of the programs that are tried.
    """
    early, late = [[longest(program, first + more) for more in range(60)] for first in (80, 140)]
    pairs = [(one, other) for one, other in zip(early, late) if one is not None and other is not None]
    return max([Fraction(other - one, 60) for one, other in pairs], default=None)


class LengthsTest(unittest.TestCase):
    def test_the_examples(self):
        mirror = Program.read(MIRROR)
        self.assertEqual((longest(mirror, 7), slope(mirror), greatest(mirror)), (14, (2, 1), None))
        self.assertEqual(longest(many=7, program=mirror), shortest(many=7, program=mirror))
        self.assertEqual((slope(program=mirror), greatest(program=mirror)), ((2, 1), None))

    def test_all_inputs(self):
        many = 0
        for program in some_small_programs(101, 150):
            for letters, found in enumerate(lengths_of(program, reach_of(program.letters))):
                self.assertEqual(longest(program, letters), max(found, default=None))
                self.assertEqual(shortest(program, letters), min(found, default=None))
                many += len(set(found)) > 1
        self.assertGreater(many, 100)

    def test_no_letters(self):
        for program in some_small_programs(102, 40):
            told = write(program, "")
            expected = None if told is None else len(told)
            self.assertEqual((longest(program, 0), shortest(program, 0)), (expected, expected))

    def test_two_hundred_letters(self):
        mirror = Program.read(MIRROR)
        self.assertEqual((longest(mirror, 200), shortest(mirror, 200)), (400, 400))
        program = program_of("program signs ab letters xyz", "begin 0 - ab", "way 0 x 0 aaa.0.bbb .1.", "way 0 y 0 .~0. .0.",
                             "way 0 z 0 .-. .1.", "end 0 0 1")
        # The last letter is y, and both boxes have what box 0 had.
        self.assertEqual((longest(program, 200), shortest(program, 200)), (2 * 6 * 199, 0))

    def test_long_beginnings(self):
        program = behind(Program.read(MIRROR), "x" * 40)
        self.assertEqual([longest(program, many) for many in (0, 1, 50)], [80, 82, 180])
        self.assertEqual(greatest(program), None)

    def test_all_is_refused(self):
        program = program_of("program signs a letters xy", "begin 0 -", "way 0 x 0 a.0.", "way 0 y 0 .0.", "end 0 none")
        for many in (0, 1, 7, 200):
            self.assertEqual((longest(program, many), shortest(program, many)), (None, None))
        self.assertEqual((greatest(program), slope(program)), (0, (0, 1)))
        # A mode that would write is never reached.
        program = program_of("program signs a letters x", "begin 0 a", "way 0 x 0 a.0.", "way 1 x 1 a.0.", "end 0 none", "end 1 0")
        self.assertEqual((longest(program, 3), greatest(program), slope(program)), (None, 0, (0, 1)))
        # From the mode that is reached one that writes is not.
        program = program_of("program signs a letters x", "begin 0 a", "way 0 x 1 a.0.", "way 1 x 1 a.0.", "end 0 0", "end 1 none")
        self.assertEqual([longest(program, many) for many in range(3)], [1, None, None])
        self.assertEqual((greatest(program), slope(program)), (1, (0, 1)))

    def test_most_is_refused(self):
        # Only every third letter ends an input that is not refused.
        program = program_of("program signs a letters x", "begin 0 -", "way 0 x 1 aa.0.", "way 1 x 2 .0.", "way 2 x 0 .0.a",
                             "end 0 0", "end 1 none", "end 2 none")
        self.assertEqual([longest(program, many) for many in range(8)], [0, None, None, 3, None, None, 6, None])
        self.assertEqual((slope(program), greatest(program)), ((1, 1), None))

    def test_rows_with_one_box_twice(self):
        program = program_of("program signs a letters x", "begin 0 a", "way 0 x 0 a.0.a", "end 0 0 =aa ~0")
        self.assertEqual([longest(program, many) for many in range(4)], [4, 8, 12, 16])
        self.assertEqual(slope(program), (4, 1))

    def test_boxes_copied_to_several(self):
        # Both boxes come from one: each letter tells for both of them what it told before.
        program = program_of("program signs a letters xy", "begin 0 - -", "way 0 x 0 aaa.0. .0.", "way 0 y 0 .1. .0.", "end 0 0 1")
        found = lengths_of(program, 7)
        self.assertEqual([longest(program, many) for many in range(8)], [max(one) for one in found])
        self.assertEqual((slope(program), greatest(program)), ((6, 1), None))

    def test_two_boxes_of_which_only_one_goes_on(self):
        program = program_of("program signs a letters x", "begin 0 - -", "way 0 x 0 aa.1. a.0.", "end 0 0")
        self.assertEqual([longest(program, many) for many in range(6)], [0, 2, 3, 5, 6, 8])
        self.assertEqual(slope(program), (3, 2))


class GreatestTest(unittest.TestCase):
    def test_by_lengths(self):
        kinds = []
        for program in some_small_programs(103, 200):
            found = greatest(program)
            rate = slope(program)
            known = [longest(program, many) for many in range(60)]
            known = [length for length in known if length is not None]
            if found is None:
                self.assertGreater(rate[0], 0)
                self.assertGreater(max(known), 10)
            else:
                self.assertEqual(rate, (0, 1))
                self.assertEqual(found, max(known + [0]))
            kinds.append((found is None, bool(known), found == 0))
        self.assertEqual(len(set(kinds)), 4)

    def test_growing_where_nothing_is_written_of_it(self):
        # Box 0 grows, but only box 1 is written.
        program = program_of("program signs ab letters xy", "begin 0 - a", "way 0 x 0 a.0. .1.", "way 0 y 1 .0. b.1.",
                             "way 1 x 1 a.0. .1.", "way 1 y 1 a.0. .1.", "end 0 1", "end 1 1 =ab")
        self.assertEqual((greatest(program), slope(program)), (4, (0, 1)))
        # It is written, but only where it cannot have grown.
        program = program_of("program signs ab letters xy", "begin 0 a", "way 0 x 1 a.0.a", "way 0 y 0 .0.", "way 1 x 1 a.0.",
                             "way 1 y 1 a.0.", "end 0 0", "end 1 =b")
        self.assertEqual((greatest(program), slope(program)), (1, (0, 1)))

    def test_a_round_that_cannot_be_left(self):
        # The growing round leads to no end.
        program = program_of("program signs ab letters xy", "begin 0 a", "way 0 x 1 a.0.a", "way 0 y 2 b.0.", "way 1 x 1 a.0.",
                             "way 1 y 1 a.0.", "way 2 x 2 .~0.", "way 2 y 2 .0.", "end 0 0", "end 1 none", "end 2 0 0")
        self.assertEqual((greatest(program), slope(program)), (4, (0, 1)))

    def test_a_round_that_is_left_by_told_signs_only(self):
        program = program_of("program signs ab letters xy", "begin 0 a", "way 0 x 0 a.0.a", "way 0 y 1 ab.-.", "way 1 x 1 .~0.",
                             "way 1 y 1 .0.", "end 0 none", "end 1 0 =a")
        self.assertEqual((greatest(program), slope(program)), (3, (0, 1)))

    def test_a_growing_round_whose_gain_comes_late(self):
        # The longest ways without rounds tell more at first than the round does.
        program = program_of("program signs a letters xy", "begin 0 -", "way 0 x 1 .-.", "way 0 y 2 aaa.0.aaa", "way 1 x 1 a.0.",
                             "way 1 y 1 .0.", "way 2 x 3 aaa.0.aaa", "way 2 y 3 aaa.0.aaa", "way 3 x 4 aaa.0.aaa",
                             "way 3 y 4 aaa.0.aaa", "way 4 x 4 .-.", "way 4 y 4 .-.", "end 0 none", "end 1 0", "end 2 0", "end 3 0",
                             "end 4 0")
        self.assertEqual((greatest(program), slope(program)), (None, (1, 1)))
        self.assertEqual([longest(program, many) for many in (3, 18, 19, 25)], [18 if many == 3 else many - 1 for many in (3, 18, 19, 25)])


class SlopeTest(unittest.TestCase):
    def test_by_growth(self):
        rates = []
        for program in some_small_programs(104, 30):
            rate = slope(program)
            self.assertEqual((type(rate), type(rate[0]), type(rate[1])), (tuple, int, int))
            self.assertGreater(rate[1], 0)
            self.assertEqual(math.gcd(*rate), 1)
            found = slope_by_growth(program)
            if found is None:
                self.assertEqual(rate, (0, 1))
            else:
                self.assertEqual(Fraction(*rate), found, str(program))
            rates.append(rate)
        self.assertGreater(len([rate for rate in rates if rate[0] > 0]), 10)

    def test_rounds_of_all_lengths(self):
        for modes in range(1, 7):
            for told in (1, 2, 3):
                lines = ["program signs a letters x", "begin 0 -"]
                lines += [f"way {mode} x {(mode + 1) % modes} {'a' * told if mode == 0 else ''}.0." for mode in range(modes)]
                program = program_of(*lines, *[f"end {mode} 0" for mode in range(modes)])
                common = math.gcd(told, modes)
                self.assertEqual(slope(program), (told // common, modes // common))
                self.assertIsNone(greatest(program))

    def test_every_second_letter(self):
        program = program_of("program signs a letters xy", "begin 0 -", "way 0 x 1 a.0.", "way 0 y 1 .0.", "way 1 x 0 .0.",
                             "way 1 y 0 .0.", "end 0 0", "end 1 0")
        self.assertEqual([longest(program, many) for many in range(6)], [0, 1, 1, 2, 2, 3])
        self.assertEqual(slope(program), (1, 2))

    def test_the_best_round_of_several(self):
        # x x grows by 3, x y x by 4, y not at all: 3 / 2 is the best.
        program = program_of("program signs a letters xy", "begin 0 -", "way 0 x 1 aa.0.", "way 0 y 0 .0.", "way 1 x 0 a.0.",
                             "way 1 y 2 a.0.", "way 2 x 0 a.0.", "way 2 y 0 a.0.", "end 0 0", "end 1 0", "end 2 0")
        self.assertEqual(slope(program), (3, 2))
        # With one sign more the longer round is better than the shorter one.
        better = program_of(*str(program).replace("way 1 y 2 a.0.", "way 1 y 2 aa.0.").split("\n"))
        self.assertEqual(slope(better), (5, 3))

    def test_rounds_within_a_shape(self):
        # x x must be followed by y, which tells nothing.
        shape = Shape("xy", [(1, 0), (2, 0), (None, 0)], [0, 1, 2])
        program = program_of("program signs ab letters xy", "begin 0 -", "way 0 x 0 a.0.", "way 0 y 0 .0.", "end 0 0")
        self.assertEqual(slope(within(program, shape)), (2, 3))
        self.assertEqual(slope(program), (1, 1))

    def test_programs_of_this_package(self):
        mirror, twins, other = [Program.read(text) for text in (MIRROR, TWINS, OTHER)]
        self.assertEqual([slope(program) for program in (mirror, twins, other, turned(other))], [(2, 1)] * 4)
        self.assertEqual(slope(skipping(mirror, "x")), (2, 1))
        half = program_of("program signs a letters xy", "begin 0 -", "way 0 x 0 a.0.", "way 0 y 0 .0.", "end 0 0")
        self.assertEqual(slope(joined(half, half)), (2, 1))
        self.assertEqual((slope(skipping(half, "x")), greatest(skipping(half, "x"))), ((0, 1), 0))
        found = lengths_of(Program.read(LONG), 8)
        self.assertEqual([longest(Program.read(LONG), many) for many in range(9)], [max(one, default=None) for one in found])

    def test_six_modes_and_two_boxes(self):
        chance = Chance(105)
        for _ in range(5):
            program = doubled(some_program(chance, "ab", "xyz", 3, 2, 3))
            single = Program(program.signs, program.letters, program.begin, program.ways, program.ends)
            self.assertEqual(slope(program), slope(single))
            self.assertEqual([longest(program, many) for many in range(4)],
                             [max(one, default=None) for one in lengths_of(program, 3)])

    def test_nothing_is_changed(self):
        programs = [Program.read(text) for text in (MIRROR, TWINS, OTHER, LONG)]
        first = [(longest(one, 9), shortest(one, 9), greatest(one), slope(one)) for one in programs]
        self.assertEqual([(longest(one, 9), shortest(one, 9), greatest(one), slope(one)) for one in programs], first)
        self.assertEqual([str(one) for one in programs], [MIRROR, TWINS, OTHER, LONG])


if __name__ == "__main__":
    unittest.main()
