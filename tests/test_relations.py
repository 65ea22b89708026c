"""[17] and [18]: relations between counts, and [1] to [4] as far as they speak of them."""

import itertools
import math
import unittest
from fractions import Fraction

from growntexts.equations import leads
from growntexts.programs import Program
from growntexts.relations import breaking, counts, holds, relations
from growntexts.shaping import behind, joined, turned
from growntexts.writing import stand
from tests.samples import LONG, MIRROR, OTHER, TWINS, any_values, outcome, program_of
from tests.twins import Chance, inputs, reach_of, some_programs, some_small_programs


def counts_of(program, text):
    """The counts behind an input, told anew."""
    row = [1]
    for box in stand(program, text)[1]:
        for sign in program.signs:
            row.append(len([one for one in box if one == sign]))
    return tuple(row)


def counts_there(program, mode, longest):
    """All inputs of at most so many letters that lead to a mode, with their counts."""
    return [(text, counts_of(program, text)) for text in inputs(program.letters, longest) if stand(program, text)[0] == mode]


def product(relation, row):
    return sum(one * other for one, other in zip(relation, row))


def reduced(rows):
    """The only reduced tuple with the same sums of multiples, by fractions."""
    rows = [[Fraction(entry) for entry in row] for row in rows]
    kept = []
    for place in range(len(rows[0]) if rows else 0):
        lead = next((row for row in rows if row[place] != 0), None)
        if lead is None:
            continue
        rows.remove(lead)
        lead = [entry / lead[place] for entry in lead]
        rows, kept = [[
            [entry - row[place] * other for entry, other in zip(row, lead)] for row in group
        ] for group in (rows, kept)]
        kept.append(lead)
    found = []
    for row in kept:
        last = math.lcm(*[entry.denominator for entry in row])
        found.append(tuple(int(entry * last) for entry in row))
    return tuple(found)


def nothing_of(rows, width):
    """The reduced tuple of all relations that hold for rows of counts, by fractions."""
    kept = reduced(rows)
    places = [next(at for at, entry in enumerate(row) if entry != 0) for row in kept]
    found = []
    for free in range(width):
        if free not in places:
            relation = [Fraction(0)] * width
            relation[free] = Fraction(1)
            for row, place in zip(kept, places):
                relation[place] = Fraction(-row[free], row[place])
            found.append(relation)
    return reduced(found)


class CountsTest(unittest.TestCase):
    def test_the_example(self):
        twins = Program.read(TWINS)
        self.assertEqual(counts(twins, "xyx"), (1, 2, 1, 2, 1))
        self.assertEqual(counts(text="xyx", program=twins), (1, 2, 1, 2, 1))

    def test_all_inputs(self):
        for program in some_programs(81, 60):
            for text in inputs(program.letters, 4):
                row = counts(program, text)
                self.assertIs(type(row), tuple)
                self.assertEqual(row, counts_of(program, text))
                self.assertEqual(len(row), 1 + program.boxes * len(program.signs))

    def test_signs_in_their_order(self):
        for signs, row in (("ab", (1, 2, 1)), ("ba", (1, 1, 2)), ("cab", (1, 0, 2, 1))):
            program = Program(signs, "x", (0, ["aba"]), Program.read(MIRROR.replace("letters xy", "letters x").replace(
                "way 0 y 0 .0.b\n", "")).ways, [None])
            self.assertEqual(counts(program, ""), row)

    def test_no_input(self):
        mirror = Program.read(MIRROR)
        for value in any_values() + ["xz", "xyxyz", ["x"], ("x", "y")]:
            kind, found = outcome(stand, mirror, value)
            expected = counts_of(mirror, value) if kind == "returns" else found
            self.assertEqual(outcome(counts, mirror, value), (kind, expected))
        self.assertEqual(outcome(counts, mirror, "xyza"), ("InvalidInput", {"at": 2}))


class HoldsTest(unittest.TestCase):
    def check(self, program, mode, relation, longest):
        there = counts_there(program, mode, longest)
        found = next((text for text, row in there if product(relation, row) != 0), None)
        answer = breaking(program, mode, relation)
        self.assertIs(holds(program, mode, relation), answer is None)
        if found is not None or answer is None:
            self.assertEqual(answer, found, (str(program), mode, relation))
        else:
            self.assertGreater(len(answer), longest)
            self.assertEqual(stand(program, answer)[0], mode)
            self.assertNotEqual(product(relation, counts_of(program, answer)), 0)
        return answer

    def test_the_example(self):
        twins = Program.read(TWINS)
        self.assertEqual(breaking(twins, 0, (0, 1, -1, 0, 0)), "x")
        self.assertEqual(breaking(relation=[0, 1, -1, 0, 0], mode=0, program=twins), "x")
        self.assertIs(holds(relation=[0, 1, 0, -1, 0], mode=0, program=twins), True)
        self.assertIs(holds(twins, 0, (1, 0, 0, 0, 0)), False)

    def test_programs_made_by_counting(self):
        chance = Chance(82)
        answers = []
        for program in some_small_programs(83, 100):
            width = 1 + program.boxes * len(program.signs)
            for mode in range(program.modes):
                told = relations(program, mode)
                for _ in range(4):
                    relation = [chance.below(5) - 2 for _ in range(width)]
                    if told and chance.below(2):
                        factors = [chance.below(7) - 3 for _ in told]
                        relation = [sum(one * row[at] for one, row in zip(factors, told)) for at in range(width)]
                        self.assertTrue(holds(program, mode, relation))
                        relation[chance.below(width)] += chance.below(2)
                    answers.append(self.check(program, mode, relation, reach_of(program.letters) - 1))
        self.assertGreater(answers.count(None), 40)
        self.assertGreater(len([one for one in answers if one and len(one) > 1]), 20)

    def test_zeros_always_hold(self):
        for program in some_small_programs(84, 20):
            for mode in range(program.modes):
                self.assertTrue(holds(program, mode, [0] * (1 + program.boxes * len(program.signs))))

    def test_great_entries(self):
        mirror = Program.read(MIRROR)
        for great in (10**6, -(10**6), 10**40):
            self.assertEqual(breaking(mirror, 0, (great, 0, 0)), "")
            self.assertEqual(breaking(mirror, 0, (0, great, 0)), "x")
            self.assertEqual(breaking(mirror, 0, (-great, great, great)), "")
            self.assertEqual(breaking(mirror, 0, (0, 0, great)), "y")

    def test_breaking_late(self):
        lines = ["program signs ab letters x", "begin 0 - -"]
        lines += [f"way {mode} x {(mode + 1) % 6} a.0. {'.1.b' if mode == 5 else 'a.1.'}" for mode in range(6)]
        program = program_of(*lines, *[f"end {mode} none" for mode in range(6)])
        self.assertEqual(breaking(program, 0, (0, 1, 0, -1, 0)), "x" * 6)
        self.assertEqual(breaking(program, 5, (0, 1, 0, -1, 0)), "x" * 11)
        self.assertEqual(breaking(program, 0, (0, 1, 0, -1, -1)), None)
        self.assertEqual(breaking(program, 0, (0, 0, 1, 0, 0)), None)

    def test_no_input_leads_there(self):
        program = program_of("program signs a letters x", "begin 1 a", "way 0 x 1 .0.", "way 1 x 1 .0.", "end 0 0", "end 1 0")
        for relation in ((0, 0), (1, 0), (5, -3)):
            self.assertIs(holds(program, 0, relation), True)
            self.assertIsNone(breaking(program, 0, relation))
        self.assertEqual((breaking(program, 1, (1, 0)), breaking(program, 1, (1, -1))), ("", None))


class RelationsTest(unittest.TestCase):
    def check_form(self, found, width):
        self.assertIs(type(found), tuple)
        places = []
        for row in found:
            self.assertIs(type(row), tuple)
            self.assertEqual((len(row), {type(entry) for entry in row}), (width, {int}))
            places.append(next(at for at, entry in enumerate(row) if entry != 0))
            self.assertGreater(row[places[-1]], 0)
            self.assertEqual(math.gcd(*row), 1)
        self.assertEqual(places, sorted(set(places)))
        for (at, row), place in itertools.product(enumerate(found), places):
            self.assertEqual(row[place] != 0, place == places[at])

    def test_the_example(self):
        told = ((0, 1, 0, -1, 0), (0, 0, 1, 0, -1))
        self.assertEqual(relations(Program.read(TWINS), 0), told)
        self.assertEqual(relations(mode=0, program=Program.read(TWINS)), told)

    def test_by_all_short_inputs(self):
        sizes = []
        for program in some_small_programs(85, 120):
            width = 1 + program.boxes * len(program.signs)
            for mode in range(program.modes):
                found = relations(program, mode)
                self.check_form(found, width)
                rows = [row for _, row in counts_there(program, mode, reach_of(program.letters))]
                expected = nothing_of(rows, width) if rows else tuple(
                    tuple(1 if at == place else 0 for at in range(width)) for place in range(width)
                )
                for row in found:
                    self.assertIsNone(breaking(program, mode, row))
                if found != expected:
                    # Only if longer inputs tell more.
                    self.assertLess(len(found), len(expected))
                    self.assertTrue(any(breaking(program, mode, row) is not None for row in expected))
                sizes.append(len(found))
        self.assertGreater(sizes.count(0), 10)
        self.assertGreater(len([size for size in sizes if size > 1]), 20)

    def test_entries_below_0_and_above_1(self):
        # For each a two b, and three signs c more than signs b.
        program = program_of("program signs abc letters xy", "begin 0 ccc", "way 0 x 0 abb.0.cc", "way 0 y 0 bac.~0.cb", "end 0 none")
        self.assertEqual(relations(program, 0), ((3, 0, 1, -1), (0, 2, -1, 0)))
        program = program_of("program signs ab letters x", "begin 0 a", "way 0 x 0 aa.0.bbb", "end 0 none")
        self.assertEqual(relations(program, 0), ((3, -3, 2),))
        program = program_of("program signs ab letters x", "begin 0 b", "way 0 x 0 aa.0.bbb", "end 0 none")
        self.assertEqual(relations(program, 0), ((2, 3, -2),))
        self.assertEqual(relations(behind(program, "x"), 0), ((2, 3, -2),))

    def test_all_or_none(self):
        program = program_of("program signs ab letters xy", "begin 0 -", "way 0 x 0 a.0.", "way 0 y 0 b.0.", "end 0 0")
        self.assertEqual(relations(program, 0), ())
        # Only one text: two relations.
        program = program_of("program signs ab letters x", "begin 0 aab", "way 0 x 0 .~0.", "end 0 0")
        self.assertEqual(relations(program, 0), ((1, 0, -1), (0, 1, -2)))
        program = program_of("program signs ab letters x", "begin 0 -", "way 0 x 0 .~0.", "end 0 0")
        self.assertEqual(relations(program, 0), ((0, 1, 0), (0, 0, 1)))

    def test_no_input_leads_there(self):
        program = program_of("program signs ab letters x", "begin 1 a", "way 0 x 1 .0.", "way 1 x 1 .0.", "end 0 0", "end 1 0")
        self.assertIsNone(leads(program, 0))
        self.assertEqual(relations(program, 0), ((1, 0, 0), (0, 1, 0), (0, 0, 1)))
        self.assertEqual(relations(program, 1), ((1, -1, 0), (0, 0, 1)))

    def test_modes_have_their_own(self):
        program = program_of("program signs ab letters x", "begin 0 - -", "way 0 x 1 a.0. .1.", "way 1 x 0 .0. .1.b",
                             "end 0 none", "end 1 none")
        self.assertEqual(relations(program, 0), ((0, 1, 0, 0, -1), (0, 0, 1, 0, 0), (0, 0, 0, 1, 0)))
        self.assertEqual(relations(program, 1), ((1, -1, 0, 0, 1), (0, 0, 1, 0, 0), (0, 0, 0, 1, 0)))

    def test_programs_of_this_package(self):
        mirror, other = Program.read(MIRROR), Program.read(OTHER)
        self.assertEqual(relations(turned(mirror), 0), relations(mirror, 0))
        self.assertEqual(relations(joined(mirror, mirror), 0), ((0, 1, 0, -1, 0), (0, 0, 1, 0, -1)))
        for mode, row in ((0, (0, 0, 0, 0, 0)), (1, (1, 0, 0, 0, 0))):
            self.assertEqual(holds(Program.read(LONG), mode, row), mode == 0)
        self.assertEqual(relations(other, 0), relations(Program.read(TWINS), 0))


class WrongArgumentsTest(unittest.TestCase):
    def setUp(self):
        self.program = Program.read(MIRROR)

    def test_modes(self):
        for value in any_values() + [-1, 1, "0"]:
            if type(value) is int and value == 0:
                continue
            self.assertEqual(outcome(relations, self.program, value), ("NoMode", {"mode": value}))
            for work in (holds, breaking):
                for relation in ((0, 0, 0), None, (), [True]):
                    self.assertEqual(outcome(work, self.program, value, relation), ("NoMode", {"mode": value}))
        for value in (True, False):
            self.assertEqual(outcome(relations, Program.read(LONG), value)[0], "NoMode")

    def at_of(self, value):
        """Where a value is no relation of three integers, told anew, or None."""
        if not isinstance(value, (list, tuple)):
            return 0
        for at in range(3):
            if at == len(value) or type(value[at]) is not int:
                return at
        return None if len(value) == 3 else 3

    def check(self, value):
        at = self.at_of(value)
        for work in (holds, breaking):
            if at is None:
                self.assertEqual(outcome(work, self.program, 0, value)[0], "returns")
            else:
                self.assertEqual(outcome(work, self.program, 0, value), ("InvalidRow", {"at": at}), value)

    def test_any_values(self):
        for value in any_values():
            self.check(value)
            for row in ([value], [0, value], [0, 0, value], [0, 0, 0, value], [value, 0, 0], [value] * 3, [value] * 4):
                self.check(row)
                self.check(tuple(row))

    def test_lengths(self):
        for many in range(8):
            self.check([1] * many)
            self.check((0,) * many)
        self.assertEqual(outcome(holds, self.program, 0, ()), ("InvalidRow", {"at": 0}))
        self.assertEqual(outcome(holds, self.program, 0, (1, 2)), ("InvalidRow", {"at": 2}))
        self.assertEqual(outcome(holds, self.program, 0, (1, 2, 3, 4, 5)), ("InvalidRow", {"at": 3}))

    def test_what_stands_behind_the_due_length_is_not_looked_at(self):
        for value in any_values():
            self.assertEqual(outcome(breaking, self.program, 0, [0, 0, 0, value]), ("InvalidRow", {"at": 3}))
            self.assertEqual(outcome(breaking, self.program, 0, (0, None, 0, value)), ("InvalidRow", {"at": 1}))

    def test_bools_are_no_integers(self):
        for at, value in itertools.product(range(3), (True, False)):
            row = [0, 0, 0]
            row[at] = value
            self.assertEqual(outcome(holds, self.program, 0, row), ("InvalidRow", {"at": at}))

    def test_nothing_is_changed(self):
        row = [0, 1, -1]
        first = (breaking(self.program, 0, row), relations(self.program, 0))
        outcome(holds, self.program, 0, [None])
        self.assertEqual((breaking(self.program, 0, row), relations(self.program, 0)), first)
        self.assertEqual((row, str(self.program)), ([0, 1, -1], MIRROR))


if __name__ == "__main__":
    unittest.main()
