"""[11] and [13]: whether programs are alike, and [1] to [4] as far as they speak of that."""

import itertools
import unittest

from growntexts.alike import alike, parting
from growntexts.programs import Program
from growntexts.settings import Setting
from growntexts.shapes import Shape, within
from growntexts.shaping import behind, joined, recoded, respelt, skipping, turned
from growntexts.writing import write
from tests.samples import LONG, MIRROR, OTHER, TWINS, outcome, program_of
from tests.twins import Chance, doubled, first_found, reach_of, rehoused, some_program, some_programs
from tests.twins import some_setting, twins_of


def teller(words, letters="x", ways=None, signs="ab"):
    """A program that tells a word (or None) for each mode; x leads on, other letters stay."""
    modes = len(words)
    if ways is None:
        ways = [[(mode + 1) % modes] + [mode] * (len(letters) - 1) for mode in range(modes)]
    rows = [[(target, [Setting(None)]) for target in row] for row in ways]
    ends = [None if word is None else [("told", word)] if word else [] for word in words]
    return Program(signs, letters, (0, [""]), rows, ends)


def with_setting(program, mode, letter, box, setting):
    """The program with another setting at one place."""
    ways = [[(target, list(settings)) for target, settings in row] for row in program.ways]
    ways[mode][letter][1][box] = setting
    return Program(program.signs, program.letters, program.begin, ways, program.ends)


def first_by_modes(p, q):
    """The first input that parts two tellers, by their pairs of modes alone."""
    seen = {(p.begin[0], q.begin[0])}
    queue = [("", p.begin[0], q.begin[0])]
    while queue:
        text, one, other = queue.pop(0)
        if p.ends[one] != q.ends[other]:
            return text
        for letter in p.letters:
            pair = (p.way(one, letter)[0], q.way(other, letter)[0])
            if pair not in seen:
                seen.add(pair)
                queue.append((text + letter,) + pair)
    return None


class PartingTest(unittest.TestCase):
    def check(self, p, q, longest):
        """Whether the answers are right as far as inputs of so many letters tell."""
        found = first_found(p, q, longest)
        answer = parting(p, q)
        self.assertIs(alike(p, q), answer is None)
        if found is not None or answer is None:
            self.assertEqual(answer, found, (str(p), str(q)))
        else:
            self.assertGreater(len(answer), longest)
            self.assertNotEqual(write(p, answer), write(q, answer))
        return answer

    def check_alike(self, p, q):
        self.assertIs(alike(p, q), True)
        self.assertIsNone(parting(p, q))
        self.assertIsNone(first_found(p, q, reach_of(p.letters) - 1))

    def test_the_overview(self):
        mirror, twins, other = [Program.read(text) for text in (MIRROR, TWINS, OTHER)]
        self.assertEqual((alike(mirror, twins), parting(mirror, other)), (True, "xy"))
        self.assertIs(alike(mirror, other), False)

    def test_the_examples_of_shaping(self):
        mirror, other = Program.read(MIRROR), Program.read(OTHER)
        self.assertEqual((alike(mirror, turned(mirror)), alike(recoded(mirror, "yx"), mirror)), (True, False))
        some = Shape("xy", [(0, 1), (None, 1)], [0, 1])
        self.assertEqual(parting(within(mirror, some), within(other, some)), "xy")

    def test_by_name(self):
        mirror, other = Program.read(MIRROR), Program.read(OTHER)
        self.assertEqual(parting(q=other, p=mirror), "xy")
        self.assertIs(alike(q=mirror, p=mirror), True)

    def test_programs_made_by_counting(self):
        programs = list(some_programs(21, 400))
        for letters in ("x", "xy", "yx", "zxy"):
            fitting = [program for program in programs if program.letters == letters]
            for p, q in zip(fitting, fitting[1:]):
                self.check(p, q, reach_of(letters) - 1)

    def test_short_texts_make_many_programs_alike(self):
        chance = Chance(22)
        answers = []
        for _ in range(300):
            letters = chance.one_of(["x", "xy", "yx"])
            p, q = [some_program(chance, "a", letters, 1 + chance.below(2), 1, 1) for _ in range(2)]
            answers.append(self.check(p, q, reach_of(letters)))
        self.assertGreater(answers.count(None), 10)

    def test_twins_are_alike(self):
        for program in some_programs(23, 30):
            for twin in twins_of(program):
                self.check_alike(program, twin)

    def test_twins_with_one_setting_otherwise(self):
        chance = Chance(24)
        lengths = []
        for program in some_programs(25, 150):
            twin = chance.one_of(list(twins_of(program)))
            spot = (chance.below(twin.modes), chance.below(len(twin.letters)), chance.below(twin.boxes))
            changed = with_setting(twin, *spot, some_setting(chance, twin.signs, twin.boxes, 2))
            answer = self.check(program, changed, reach_of(program.letters))
            lengths.append(None if answer is None else len(answer))
        self.assertGreater(lengths.count(None), 20)
        self.assertGreater(max(length or 0 for length in lengths), 3)

    def test_shaped_programs(self):
        for program in some_programs(26, 25):
            letters = program.letters
            self.check_alike(turned(turned(program)), program)
            self.check_alike(recoded(program, letters), program)
            self.check_alike(respelt(program, program.signs), program)
            self.check_alike(behind(program, ""), program)
            self.check(skipping(program, letters[0]), program, reach_of(letters) - 1)
            self.check(behind(program, letters[0]), program, reach_of(letters) - 1)
            self.check(turned(program), program, reach_of(letters) - 1)

    def test_joined_and_held_to_shapes(self):
        chance = Chance(27)
        for _ in range(25):
            letters = chance.one_of(["x", "xy"])
            one, other = [some_program(chance, "ab", letters, 1 + k, 1, 2) for k in (1, 2)]
            twin = doubled(rehoused(other, [0], [1]), 1)
            self.check_alike(joined(one, other), joined(one, twin))
            self.check_alike(turned(joined(one, other)), joined(turned(other), turned(one)))
            self.check(joined(one, other), joined(other, one), reach_of(letters) - 1)
            shape = Shape(letters, [[1] * len(letters), [0] + [None] * (len(letters) - 1)], [0])
            self.check_alike(within(other, shape), within(twin, shape))
            self.check(within(one, shape), within(other, shape), reach_of(letters) - 1)
            self.check(within(other, shape), other, reach_of(letters) - 1)


class OrderTest(unittest.TestCase):
    def test_the_empty_input_is_the_first_one(self):
        self.assertEqual(parting(teller(["a"]), teller(["b"])), "")
        self.assertEqual(parting(teller(["a", "a"]), teller([None, "b"])), "")
        self.assertIs(alike(teller(["a"]), teller(["b"])), False)

    def test_letters_by_their_order_in_the_programs(self):
        for letters in ("xy", "yx", "ab", "ba", "zxy", "cab"):
            many = len(letters)
            same = teller(["a"], letters, [[0] * many])
            # All letters part, or all but the first one.
            self.assertEqual(parting(same, teller(["a", "b"], letters, [[1] * many, [1] * many])), letters[0])
            ways = [[0] + [1] * (many - 1), [1] * many]
            self.assertEqual(parting(same, teller(["a", "b"], letters, ways)), letters[1])

    def test_of_one_length_the_first_letter_tells(self):
        # The last letter, and then the first one: or the other way round.
        ways = [[1, 2], [3, 4], [4, 3], [3, 3], [4, 4]]
        for letters in ("xy", "yx"):
            same = teller(["a"], letters, [[0, 0]])
            self.assertEqual(parting(same, teller(["a", "a", "a", "a", "b"], letters, ways)), letters)
            self.assertEqual(parting(same, teller(["a", "a", "a", "b", "a"], letters, ways)), letters[0] * 2)

    def test_a_shorter_one_is_ahead(self):
        same = teller(["a"], "xy", [[0, 0]])
        # x x x parts, and so does y x.
        ways = [[1, 3], [2, 0], [4, 0], [4, 0], [4, 4]]
        self.assertEqual(parting(same, teller(["a", "a", "a", "a", "b"], "xy", ways)), "yx")

    def test_late_ones(self):
        for one, other in itertools.product((1, 2, 3, 5, 6), repeat=2):
            p = teller(["a"] * (one - 1) + ["b"])
            q = teller(["a"] * (other - 1) + ["b"])
            self.assertEqual(parting(p, q), None if one == other else "x" * (min(one, other) - 1))

    def test_rounds_that_are_parted_as_late_as_can_be(self):
        cases = [("ab", "aba", 3), ("aba", "abaab", 6), ("aaaab", "aaaaba", 9)]
        for one, other, last in cases:
            p, q = teller(list(one)), teller(list(other))
            self.assertEqual(parting(p, q), "x" * last)
            # The signs are those that a box got on the way.
            rows = []
            for word in (one, other):
                modes = len(word)
                ways = [[((mode + 1) % modes, [Setting(None, word[(mode + 1) % modes])])] for mode in range(modes)]
                rows.append(Program("ab", "x", (0, ["a"]), ways, [[("box", 0)]] * modes))
            self.assertEqual(parting(*rows), "x" * last)
            # A box keeps all of them.
            rows = [
                Program("ab", "x", (0, ["a"]), [
                    [(target, [Setting(0, "", settings[0].head)])] for ((target, settings),) in program.ways
                ], program.ends)
                for program in rows
            ]
            self.assertEqual(parting(*rows), "x" * last)
            self.assertEqual(parting(*[turned(program) for program in rows]), "x" * last)

    def test_pairs_of_modes(self):
        chance = Chance(31)
        lengths = []
        for _ in range(300):
            letters = chance.one_of(["x", "xy", "yx"])
            rows = []
            for _ in range(2):
                modes = 1 + chance.below(6)
                ways = [[chance.one_of([(mode + 1) % modes, mode, 0]) for _ in letters] for mode in range(modes)]
                words = ["a"] * (modes - 1) + [chance.one_of(["a", "a", "b", None, ""])]
                rows.append(teller(words, letters, ways))
            answer = parting(*rows)
            self.assertEqual(answer, first_by_modes(*rows))
            lengths.append(-1 if answer is None else len(answer))
        self.assertGreater(max(lengths), 4)
        self.assertGreater(lengths.count(-1), 20)

    def test_parted_by_texts_that_grow_late(self):
        # The second box of q falls behind only when the first round of six letters is over.
        def rounds(last):
            lines = ["program signs ab letters x", "begin 0 -"]
            lines += [f"way {mode} x {(mode + 1) % 6} a.0." for mode in range(5)]
            return program_of(*lines, f"way 5 x 0 {last}", *[f"end {mode} 0 ~0" for mode in range(6)])
        self.assertEqual(parting(rounds("a.0."), rounds(".0.b")), "x" * 6)
        self.assertIs(alike(rounds("a.0."), rounds(".0.a")), True)
        self.assertIs(alike(rounds("b.0."), rounds("b.0.")), True)
        # Turned about, a text of one sign stays as it is, until another sign stands at one end.
        self.assertEqual(parting(rounds("b.0."), rounds("b.~0.")), None)
        self.assertEqual(parting(rounds("b.0.a"), rounds("b.~0.a")), "x" * 12)

    def test_long_inputs_of_three_letters(self):
        # Only xyzxyz leads to the last mode.
        word = "xyzxyz"
        ways = [[mode + 1 if letter == word[mode] else 7 for letter in "xyz"] for mode in range(6)]
        ways += [[7, 7, 7], [7, 7, 7]]
        p, q = [teller(["a"] * 6 + [last, "a"], "xyz", ways) for last in ("a", "b")]
        self.assertEqual(parting(p, q), word)


class RefusedTest(unittest.TestCase):
    def test_refused_is_not_the_empty_text(self):
        self.assertEqual(parting(teller([None]), teller([""])), "")
        self.assertEqual(parting(teller(["a", ""]), teller(["a", None])), "x")

    def test_all_is_refused(self):
        growing = program_of("program signs ab letters x", "begin 0 ab", "way 0 x 0 a.~0.b", "end 0 none")
        self.assertIs(alike(growing, teller([None])), True)
        self.assertIs(alike(growing, teller([None, None, None])), True)
        self.assertEqual(parting(growing, teller([None, None, "a"])), "xx")

    def test_what_is_refused_needs_no_texts(self):
        lines = ["program signs ab letters xy", "begin 0 -", "way 0 x 0 {}", "way 0 y 1 .0.", "way 1 x 1 .0.", "way 1 y 1 .0."]
        p, q = [program_of(*[line.format(setting) for line in lines], "end 0 none", "end 1 none") for setting in ("a.0.", ".0.b")]
        self.assertIs(alike(p, q), True)
        p, q = [program_of(*[line.format(setting) for line in lines], "end 0 none", "end 1 0") for setting in ("a.0.", ".0.b")]
        self.assertEqual(parting(p, q), "xy")


class SignsTest(unittest.TestCase):
    def test_signs_that_only_one_program_has(self):
        p = program_of("program signs b letters x", "begin 0 -", "way 0 x 0 b.0.", "end 0 0")
        q = program_of("program signs abc letters x", "begin 0 -", "way 0 x 0 .0.b", "end 0 0")
        self.assertIs(alike(p, q), True)
        self.assertIs(alike(q, p), True)
        self.assertEqual(parting(p, respelt(q, "aaa")), "x")
        self.assertEqual(parting(p, respelt(q, "ccc")), "x")

    def test_signs_in_another_order(self):
        p = program_of("program signs ab letters xy", "begin 0 -", "way 0 x 0 a.0.", "way 0 y 0 .0.b", "end 0 0")
        q = program_of("program signs ba letters xy", "begin 0 -", "way 0 x 0 a.0.", "way 0 y 0 .0.b", "end 0 0")
        self.assertIs(alike(p, q), True)
        self.assertEqual(parting(p, respelt(q, "ab")), "x")

    def test_one_sign_alone(self):
        p = program_of("program signs a letters x", "begin 0 -", "way 0 x 0 a.0.", "end 0 0 =a")
        q = program_of("program signs a letters x", "begin 0 a", "way 0 x 0 .0.a", "end 0 ~0")
        self.assertIs(alike(p, q), True)
        self.assertEqual(parting(p, program_of(*str(q).replace("begin 0 a", "begin 0 aa").split("\n"))), "")

    def test_unlike_signs_at_one_place(self):
        p, q = [program_of(f"program signs {sign} letters x", "begin 0 -", f"way 0 x 0 {sign}.0.", "end 0 0") for sign in "ab"]
        self.assertEqual(parting(p, q), "x")


class PairTest(unittest.TestCase):
    def test_unlike_letters(self):
        mirror = Program.read(MIRROR)
        for letters in ("yx", "x", "y", "xyz", "xz", "ab"):
            other = Program("ab", letters, (0, [""]), [[(0, [Setting(0)])] * len(letters)], [[]])
            for work in (alike, parting):
                self.assertEqual(outcome(work, mirror, other), ("InvalidPair", {"word": "letters"}))
                self.assertEqual(outcome(work, other, mirror), ("InvalidPair", {"word": "letters"}))

    def test_nothing_is_changed(self):
        programs = [Program.read(text) for text in (MIRROR, TWINS, OTHER, LONG)]
        first = [parting(p, q) for p, q in itertools.product(programs, repeat=2)]
        self.assertEqual([parting(p, q) for p, q in itertools.product(programs, repeat=2)], first)
        self.assertEqual([str(program) for program in programs], [MIRROR, TWINS, OTHER, LONG])

    def test_more_than_the_limits(self):
        chance = Chance(41)
        row = [("box", 0), ("told", "dcba"), ("turned", 2), ("box", 1), ("told", "a")]
        for _ in range(2):
            p = some_program(chance, "abcd", "wxyz", 3, 3, 1)
            p = Program(p.signs, p.letters, p.begin, p.ways, [row, None, row[::-1]])
            self.assertIs(alike(p, rehoused(p, [2, 0, 1], [1, 0, 1])), True)
            q = Program(p.signs, p.letters, p.begin, p.ways, [row, None, row[:0:-1]])
            self.assertEqual(parting(p, q), first_found(p, q, 4))

    def test_rows_of_many_boxes(self):
        # Three boxes in a row need products of three weights.
        lines = ["program signs ab letters xy", "begin 0 - -", "way 0 x 0 a.0. b.1.", "way 0 y 0 .0.b .1."]
        p, q, other = [program_of(*lines, "end 0 " + row) for row in ("0 1 0 ~1", "0 1 0 1", "0 1 0 =a ~1")]
        self.assertIs(alike(p, q), True)
        self.assertEqual(parting(p, other), "")
        self.assertEqual(parting(p, program_of(*lines, "end 0 0 1 ~0 1")), "xy")


if __name__ == "__main__":
    unittest.main()
