"""[12] and [14]: figures and papers, and [1] to [4] as far as they speak of them."""

import itertools
import unittest

from growntexts.alike import alike, parting
from growntexts.papers import figure_plan, figures, packed, paper, paper_holds, states_behind, width_for
from growntexts.programs import Program
from growntexts.readers import Readers
from growntexts.settings import Setting
from growntexts.shapes import Shape, within
from growntexts.shaping import behind, joined, respelt, turned
from growntexts.writing import stand, write
from tests.samples import LATE_PAIRS, LONG, MIRROR, OTHER, TWINS, any_values, outcome, program_of
from tests.twins import Chance, doubled, first_found, inputs, rehoused, some_program, some_programs, twins_of

LETTERS = "abcdefghijklmnopqrstuvwxyz"


def value_of(text, signs):
    """The value of a text, to the base of the document."""
    base = len(signs) + 1
    return sum((signs.index(sign) + 1) * base**at for at, sign in enumerate(text[::-1]))


def figures_of(p, q, text):
    """The row of figures, told anew from the texts of the boxes."""
    signs = "".join(sign for sign in LETTERS if sign in p.signs + q.signs)
    boxes = [
        [(value_of(one, signs), value_of(one[::-1], signs), (len(signs) + 1) ** len(one)) for one in stand(program, text)[1]]
        for program in (p, q)
    ]
    row = [1]
    for many in boxes:
        for numbers in many:
            row.extend(numbers)
    for many in boxes:
        for one, other in itertools.product(many, repeat=2):
            row.extend([number * other[2] for number in one])
    return tuple(row)


def modes_behind(p, q, text):
    return stand(p, text)[0], stand(q, text)[0]


def is_right(p, q, value):
    """Whether a paper is right, told anew from the words of the document."""
    texts = [text for text, _ in value]
    if not texts or texts[0] != "" or len(set(texts)) != len(texts):
        return False
    if any(write(p, text) != write(q, text) for text in texts):
        return False
    rows = {text: figures_of(p, q, text) for text in texts}
    for text, sums in value:
        for letter, whole in zip(p.letters, sums):
            behind_it = figures_of(p, q, text + letter)
            for at, figure in enumerate(behind_it):
                if figure * whole[-1] != sum(times * rows[one][at] for times, one in zip(whole, texts)):
                    return False
            modes = modes_behind(p, q, text + letter)
            if any(times and modes_behind(p, q, one) != modes for times, one in zip(whole, texts)):
                return False
    return True


def has_form(value, p):
    """Whether a value is a paper by its form."""
    if type(value) is not tuple:
        return False
    for entry in value:
        if type(entry) is not tuple or len(entry) != 2 or type(entry[0]) is not str:
            return False
        if type(entry[1]) is not tuple or len(entry[1]) != len(p.letters):
            return False
        for whole in entry[1]:
            if type(whole) is not tuple or len(whole) != len(value) + 1 or whole[-1] <= 0:
                return False
            if any(type(times) is not int for times in whole):
                return False
    return True


def with_entry(value, at, entry):
    return value[:at] + (entry,) + value[at + 1:]


def with_sum(value, at, letter, whole):
    """A paper with another sum at one place."""
    text, sums = value[at]
    return with_entry(value, at, (text, sums[:letter] + (whole,) + sums[letter + 1:]))


def with_further(value, entry_of):
    """A paper with one entry more, told by a function of the number of entries; it is never taken."""
    widened = tuple(
        (text, tuple(whole[:-1] + (0, whole[-1]) for whole in sums))
        for text, sums in value
    )
    return widened + (entry_of(len(value)),)


class FiguresTest(unittest.TestCase):
    def test_the_example(self):
        mirror = Program.read(MIRROR)
        self.assertEqual(figures(mirror, mirror, "x"), (1, 1, 1, 3, 1, 1, 3, 3, 3, 9, 3, 3, 9))
        self.assertEqual(figures(text="x", q=mirror, p=mirror), figures(mirror, mirror, "x"))

    def test_the_empty_input(self):
        mirror, long = Program.read(MIRROR), Program.read(LONG)
        self.assertEqual(figures(mirror, mirror, ""), (1, 0, 0, 1, 0, 0, 1, 0, 0, 1, 0, 0, 1))
        # The texts of the boxes are ab and the empty one.
        ab, none = (5, 7, 9), (0, 0, 1)
        products = (5 * 9, 7 * 9, 9 * 9) + (5, 7, 9) + (0, 0, 9) + (0, 0, 1)
        self.assertEqual(figures(mirror, long, ""), (1,) + none + ab + none + none + products)
        self.assertEqual(figures(long, mirror, ""), (1,) + ab + none + none + products + none)

    def test_order_of_boxes_and_products(self):
        p = program_of("program signs a letters x", "begin 0 a aa", "way 0 x 0 .0. .1.", "end 0 0")
        q = program_of("program signs ab letters x", "begin 0 ab", "way 0 x 0 .0.", "end 0 0")
        one, two, three = (1, 1, 3), (4, 4, 9), (5, 7, 9)
        row = (1,) + one + two + three
        row += (3, 3, 9) + (9, 9, 27) + (12, 12, 27) + (36, 36, 81) + (45, 63, 81)
        for text in ("", "x", "xx"):
            self.assertEqual(figures(p, q, text), row)

    def test_digits_are_those_of_all_signs_ascending(self):
        p = program_of("program signs c letters x", "begin 0 c", "way 0 x 0 .0.", "end 0 0")
        q = program_of("program signs ba letters x", "begin 0 ab", "way 0 x 0 .0.", "end 0 0")
        self.assertEqual(figures(p, q, ""), (1, 3, 3, 4, 6, 9, 16, 12, 12, 16, 96, 144, 256))
        self.assertEqual(figures(p, p, ""), (1, 1, 1, 2, 1, 1, 2, 2, 2, 4, 2, 2, 4))

    def test_all_inputs(self):
        programs = list(some_programs(51, 60))
        for letters in ("x", "xy", "yx", "zxy"):
            fitting = [program for program in programs if program.letters == letters]
            for p, q in zip(fitting, fitting[1:] + fitting[:1]):
                for text in inputs(letters, 3):
                    row = figures(p, q, text)
                    self.assertIs(type(row), tuple)
                    self.assertEqual(row, figures_of(p, q, text))
                    self.assertEqual(len(row), 1 + 3 * (p.boxes + q.boxes) + 3 * (p.boxes**2 + q.boxes**2))

    def test_long_inputs(self):
        program, mirror = Program.read(LONG), Program.read(MIRROR)
        for text in ("xy" * 24, "y" * 48, "yyx" * 16):
            self.assertEqual(figures(program, mirror, text), figures_of(program, mirror, text))
            self.assertEqual(figures(behind(program, text), mirror, ""), figures_of(behind(program, text), mirror, ""))

    def test_no_input(self):
        mirror, twins = Program.read(MIRROR), Program.read(TWINS)
        for value in any_values() + ["xz", "xyxyz", "zx", "xZ", ["x"], ("x", "y")]:
            kind, found = outcome(stand, mirror, value)
            if kind == "returns":
                self.assertEqual(figures(mirror, twins, value), figures_of(mirror, twins, value))
            else:
                self.assertEqual((kind, outcome(figures, mirror, twins, value)), ("InvalidInput", (kind, found)))
        self.assertEqual(outcome(figures, mirror, twins, "xyza"), ("InvalidInput", {"at": 2}))

    def test_unlike_letters_are_told_ahead_of_wrong_inputs(self):
        mirror = Program.read(MIRROR)
        for letters in ("yx", "x", "xyz", "ab"):
            other = Program("ab", letters, (0, [""]), [[(0, [Setting(0)])] * len(letters)], [[]])
            for value in any_values() + ["x", "xyz"]:
                self.assertEqual(outcome(figures, mirror, other, value), ("InvalidPair", {"word": "letters"}))


class PaperTest(unittest.TestCase):
    def check(self, p, q):
        """Whether there is a paper for alike programs, and it is right."""
        value = paper(p, q)
        self.assertTrue(has_form(value, p))
        self.assertTrue(is_right(p, q, value))
        self.assertIs(paper_holds(p, q, value), True)
        self.assertEqual(paper(p, q), value)
        return value

    def test_the_example(self):
        mirror, twins, other = [Program.read(text) for text in (MIRROR, TWINS, OTHER)]
        self.assertTrue(paper_holds(mirror, twins, paper(mirror, twins)))
        self.assertIsNone(paper(mirror, other))
        self.assertFalse(paper_holds(mirror, mirror, ()))
        self.check(mirror, twins)
        self.check(twins, mirror)
        self.assertTrue(paper_holds(value=paper(q=twins, p=mirror), q=twins, p=mirror))

    def test_twins(self):
        for program in some_programs(52, 12):
            for twin in list(twins_of(program))[-4:]:
                self.check(program, twin)

    def test_programs_that_are_not_alike(self):
        programs = list(some_programs(53, 100))
        for letters in ("x", "xy", "yx", "zxy"):
            fitting = [program for program in programs if program.letters == letters]
            for p, q in zip(fitting, fitting[1:]):
                if first_found(p, q, 4) is not None:
                    self.assertIsNone(paper(p, q))

    def test_shaped_programs(self):
        chance = Chance(54)
        for _ in range(4):
            letters = chance.one_of(["x", "xy"])
            one, other = [some_program(chance, "ab", letters, modes, 1, 1) for modes in (1, 2)]
            twin = rehoused(other, [0], [1])
            self.check(joined(one, other), joined(one, twin))
            shape = Shape(letters, [[1] * len(letters), [0] + [None] * (len(letters) - 1)], [0])
            self.check(within(other, shape), within(twin, shape))
            self.check(turned(turned(other)), doubled(twin))

    def test_one_sign_and_one_letter(self):
        p = program_of("program signs a letters x", "begin 0 -", "way 0 x 0 a.0.", "end 0 0 =a")
        q = program_of("program signs a letters x", "begin 0 a", "way 0 x 0 .0.a", "end 0 ~0")
        self.check(p, q)
        self.assertIsNone(paper(p, respelt(program_of(*str(q).replace("signs a", "signs ab").split("\n")), "bb")))

    def test_unlike_programs_that_refuse_all(self):
        p = program_of("program signs a letters xy", "begin 0 a", "way 0 x 0 a.0.", "way 0 y 0 .0.aa", "end 0 none")
        q = program_of("program signs b letters xy", "begin 0 -", "way 0 x 1 b.0.", "way 0 y 0 .-.", "way 1 x 1 .~0.",
                       "way 1 y 0 .0.b", "end 0 none", "end 1 none")
        self.check(p, q)

    def test_as_many_entries_as_figures(self):
        # No figure is a sum of others, so all of them are needed.
        lines = ["program signs ab letters xy", "begin 0 b"]
        p = program_of(*lines, "way 0 x 0 aab.~0.bbb", "way 0 y 0 bb.0.bab", "end 0 none")
        q = program_of(*lines, "way 0 x 0 abb.~0.a", "way 0 y 0 b.0.ba", "end 0 none")
        self.assertEqual(len(self.check(p, q)), len(figures(p, q, "")))

    def test_rows_of_more_boxes_than_figures_tell(self):
        # Alike programs with three boxes in a row, whose figures tell less than all.
        lines = ["program signs ab letters xy", "begin 0 - -", "way 0 x 0 a.0. b.1.", "way 0 y 0 .0.b .1."]
        p, q = [program_of(*lines, "end 0 " + row) for row in ("0 1 0 ~1", "0 1 0 1")]
        self.check(p, q)
        self.assertIsNone(paper(p, program_of(*lines, "end 0 0 1 ~0 1")))

    def test_unlike_letters(self):
        mirror = Program.read(MIRROR)
        for letters in ("yx", "x", "xyz", "ab"):
            other = Program("ab", letters, (0, [""]), [[(0, [Setting(0)])] * len(letters)], [[]])
            self.assertEqual(outcome(paper, mirror, other), ("InvalidPair", {"word": "letters"}))
            self.assertEqual(outcome(paper, other, mirror), ("InvalidPair", {"word": "letters"}))
            for value in any_values() + [paper(mirror, mirror)]:
                self.assertEqual(outcome(paper_holds, mirror, other, value), ("InvalidPair", {"word": "letters"}))


class LatePairsTest(unittest.TestCase):
    """The pairs for which these answers took longest: they stay what they are."""

    def setUp(self):
        self.pairs = [(Program.read(one), Program.read(other)) for one, other in LATE_PAIRS]

    def test_answers(self):
        for p, q in self.pairs:
            self.assertIsNone(parting(p, q))
            self.assertIs(alike(p, q), True)
            value = paper(p, q)
            self.assertTrue(has_form(value, p))
            self.assertTrue(is_right(p, q, value))
            self.assertIs(paper_holds(p, q, value), True)
            self.assertIs(paper_holds(q, p, value), True)
            self.assertIsNone(first_found(p, q, 4))

    def test_as_many_entries_as_needed(self):
        self.assertEqual([len(paper(p, q)) for p, q in self.pairs], [49, 36])

    def test_papers_changed_in_some_entries(self):
        chance = Chance(57)
        for p, q in self.pairs:
            value = paper(p, q)
            for _ in range(30):
                at, letter = chance.below(len(value)), chance.below(len(p.letters))
                whole = list(value[at][1][letter])
                whole[chance.below(len(whole))] += chance.one_of([-1, 1, 2**61, -(10**60)])
                self.assertIs(paper_holds(p, q, with_sum(value, at, letter, tuple(whole))), False)
            # A paper for other programs of this form.
            self.assertIs(paper_holds(p, turned(q), value), False)

    def test_parted(self):
        for p, q in self.pairs:
            other = turned(q)
            found = first_found(p, other, 4)
            self.assertIsNotNone(found)
            self.assertEqual(parting(p, other), found)
            self.assertIsNone(paper(p, other))


class PackedTest(unittest.TestCase):
    """Sums of rows are told by one integer for each row."""

    def test_rows_are_equal_just_if_their_integers_are(self):
        chance = Chance(58)
        for _ in range(300):
            width = 1 + chance.below(8)
            rows = [[chance.below(2**width) for _ in range(4)] for _ in range(2)]
            rows.append([chance.one_of([rows[0][at], rows[1][at]]) for at in range(4)])
            for one, other in itertools.product(rows, repeat=2):
                self.assertEqual(packed(one, width) == packed(other, width), one == other)

    def test_width_is_enough(self):
        for p, q in [(Program.read(MIRROR), Program.read(TWINS))] + [
            (Program.read(one), Program.read(other)) for one, other in LATE_PAIRS
        ]:
            value = paper(p, q)
            readers = Readers((p, q))
            states = states_behind(readers, [text + letter for text, _ in value for letter in p.letters])
            greatest = max(max(figures(p, q, text)) for text in states)
            factor = max(abs(times) for _, sums in value for whole in sums for times in whole)
            self.assertLess(greatest * factor * (len(value) + 1), 2 ** width_for(value, states))

    def test_figures_that_are_the_same_are_told_once(self):
        p, q = Program.read(MIRROR), Program.read(TWINS)
        readers = Readers((p, q))
        states = [readers.led_on(readers.first(), text) for text in inputs("xy", 4)]
        singles, doubles, others = figure_plan(readers, states)
        # The boxes of twins are that of mirror, and that turned about.
        self.assertEqual((singles, doubles, others), ([0, 1, 2], [(0, 2), (1, 2), (2, 2)], []))
        singles, doubles, others = figure_plan(readers, states[:1])
        self.assertEqual((singles, doubles, others), ([0, 2], [(0, 2), (2, 2)], []))


class PaperHoldsTest(unittest.TestCase):
    def setUp(self):
        self.p, self.q = Program.read(MIRROR), Program.read(TWINS)
        self.paper = paper(self.p, self.q)

    def refuse(self, value, p=None, q=None):
        self.assertIs(paper_holds(p or self.p, q or self.q, value), False, value)

    def test_any_values(self):
        for value in any_values():
            self.refuse(value)
            self.refuse((value,))
            self.refuse((value,) * 2)
            self.refuse((("", value),))
            self.refuse((("", (value, value)),))

    def test_any_values_in_the_place_of_something(self):
        text, sums = self.paper[0]
        for value in any_values():
            self.refuse((value,) + self.paper)
            self.refuse(self.paper + (value,))
            for at in range(len(self.paper)):
                self.refuse(with_entry(self.paper, at, value))
                self.refuse(with_entry(self.paper, at, (self.paper[at][0], value)))
                # Of mirror and twins xy and yx lead to the same stands.
                if value != self.paper[at][0] and (value, self.paper[at][0]) != ("yx", "xy"):
                    self.refuse(with_entry(self.paper, at, (value, self.paper[at][1])))
            self.refuse(with_entry(self.paper, 0, (text, (value,) + sums[1:])))
            for at, right in enumerate(sums[0]):
                if type(value) is not int or value != right:
                    self.refuse(with_sum(self.paper, 0, 0, sums[0][:at] + (value,) + sums[0][at + 1:]))

    def test_lists_are_no_tuples(self):
        self.refuse(list(self.paper))
        for at, (text, sums) in enumerate(self.paper):
            self.refuse(with_entry(self.paper, at, [text, sums]))
            self.refuse(with_entry(self.paper, at, (text, list(sums))))
            self.refuse(with_sum(self.paper, at, 0, list(sums[0])))

    def test_bools_are_no_integers(self):
        for at, letter in itertools.product(range(len(self.paper)), range(2)):
            whole = self.paper[at][1][letter]
            for place, times in enumerate(whole):
                if times in (0, 1):
                    self.refuse(with_sum(self.paper, at, letter, whole[:place] + (bool(times),) + whole[place + 1:]))

    def test_each_integer_changed(self):
        for at, letter in itertools.product(range(len(self.paper)), range(2)):
            whole = self.paper[at][1][letter]
            for place in range(len(whole)):
                for by in (1, -1, 10**40):
                    self.refuse(with_sum(self.paper, at, letter, whole[:place] + (whole[place] + by,) + whole[place + 1:]))

    def test_an_integer_out_or_twice(self):
        for at, letter in itertools.product(range(len(self.paper)), range(2)):
            whole = self.paper[at][1][letter]
            for place in range(len(whole)):
                self.refuse(with_sum(self.paper, at, letter, whole[:place] + whole[place + 1:]))
                self.refuse(with_sum(self.paper, at, letter, whole[:place + 1] + whole[place:]))
            self.refuse(with_sum(self.paper, at, letter, ()))

    def test_the_last_integer_is_above_0(self):
        for at, letter in itertools.product(range(len(self.paper)), range(2)):
            whole = self.paper[at][1][letter]
            for times in (2, 3, 10**30):
                value = with_sum(self.paper, at, letter, tuple(times * one for one in whole))
                self.assertIs(paper_holds(self.p, self.q, value), True)
            for times in (0, -1, -2):
                self.refuse(with_sum(self.paper, at, letter, tuple(times * one for one in whole)))

    def test_a_sum_out_twice_or_otherwise(self):
        for at, (text, sums) in enumerate(self.paper):
            self.refuse(with_entry(self.paper, at, (text, ())))
            self.refuse(with_entry(self.paper, at, (text, sums[:1])))
            self.refuse(with_entry(self.paper, at, (text, sums + sums[:1])))
            self.refuse(with_entry(self.paper, at, (text, sums[::-1])))
            self.refuse(with_entry(self.paper, at, (text,)))
            self.refuse(with_entry(self.paper, at, (text, sums, sums)))

    def test_an_entry_out_twice_or_otherwise(self):
        for at in range(len(self.paper)):
            self.refuse(self.paper[:at] + self.paper[at + 1:])
            self.refuse(self.paper[:at + 1] + self.paper[at:])
            # Here the sums are as long as they should be.
            fewer = tuple(
                (text, tuple(whole[:at] + whole[at + 1:] for whole in sums))
                for text, sums in self.paper[:at] + self.paper[at + 1:]
            )
            self.refuse(fewer)

    def test_inputs_are_unlike(self):
        for at, (text, sums) in enumerate(self.paper):
            def again(many):
                return text, tuple(whole[:-1] + (0, whole[-1]) for whole in sums)
            value = with_further(self.paper, again)
            self.assertEqual(len({one for one, _ in value}), len(value) - 1)
            self.refuse(value)

    def test_the_first_input_is_empty(self):
        # Otherwise the same paper, but with entries exchanged.
        value = self.paper
        order = list(range(len(value)))
        for at in range(1, len(value)):
            row = [at] + [one for one in order if one != at]
            exchanged = tuple(
                (value[one][0], tuple(tuple(whole[k] for k in row) + whole[-1:] for whole in value[one][1]))
                for one in row
            )
            self.refuse(exchanged)
            # Only the first place matters.
            row = [0, at] + [one for one in order if one not in (0, at)]
            exchanged = tuple(
                (value[one][0], tuple(tuple(whole[k] for k in row) + whole[-1:] for whole in value[one][1]))
                for one in row
            )
            self.assertIs(paper_holds(self.p, self.q, exchanged), True)

    def test_texts_otherwise(self):
        for at, (text, sums) in enumerate(self.paper):
            for other in (text + "x", "y" + text, text + "z", text.upper() + "X", text + " ", "z", None, 0, ["x"], text[:-1]):
                if other != text:
                    self.refuse(with_entry(self.paper, at, (other, sums)))

    def test_further_entries(self):
        # An entry that is not needed is right if its sums are.
        value = self.paper
        index = {text: at for at, (text, _) in enumerate(value)}
        at, letter = next(
            (at, letter)
            for at, (text, _) in enumerate(value) for letter in range(2) if text + "xy"[letter] not in index
        )
        text = value[at][0] + "xy"[letter]
        whole = value[at][1][letter]

        def entry_of(many):
            # What stands behind a further letter is a sum of sums, all over one integer.
            sums = []
            for k in range(2):
                times = [0] * many
                for one, factor in enumerate(whole[:-1]):
                    told = value[one][1][k]
                    self.assertEqual(told[-1], 1)
                    times = [old + factor * new for old, new in zip(times, told)]
                sums.append(tuple(times) + (0, whole[-1]))
            return text, tuple(sums)

        further = with_further(value, entry_of)
        self.assertTrue(is_right(self.p, self.q, further))
        self.assertIs(paper_holds(self.p, self.q, further), True)
        wrong = with_further(value, lambda many: (text, tuple(one[:-1] + (2 * one[-1],) for one in entry_of(many)[1])))
        self.refuse(wrong)

    def test_both_write_the_same(self):
        # The figures do not tell what is written, so that the sums stay as they are.
        for row in ("0", "~0", "0 0", "none", "0 =a"):
            other = program_of(*MIRROR.split("\n")[:-1], "end 0 " + row)
            self.refuse(self.paper, p=other)
        other = program_of(*TWINS.split("\n")[:-1], "end 0 1 0")
        self.refuse(self.paper, q=other)
        refusing = [program_of(*text.split("\n")[:-1], "end 0 none") for text in (MIRROR, TWINS)]
        self.assertIs(paper_holds(*refusing, self.paper), True)

    def test_papers_of_other_programs(self):
        other = Program.read(OTHER)
        programs = [self.p, self.q, other, turned(self.p), behind(self.p, "x"), behind(self.q, "x"), Program.read(LONG)]
        answers = []
        for p, q in itertools.product(programs, repeat=2):
            for value in (self.paper, paper(other, other), paper(programs[4], programs[5])):
                expected = is_right(p, q, value)
                self.assertIs(paper_holds(p, q, value), expected)
                answers.append(expected)
        self.refuse(self.paper, q=other)
        self.refuse(paper(other, other), q=other)
        self.assertGreater(answers.count(True), 3)

    def test_modes(self):
        # All figures are the same behind all inputs, but the modes are not.
        lines = ["program signs a letters x", "begin 0 a"]
        p = program_of(*lines, "way 0 x 1 .0.", "way 1 x 0 .0.", "end 0 0", "end 1 0")
        q = program_of(*lines, "way 0 x 0 .0.", "end 0 0")
        right = (("", ((0, 1, 1),)), ("x", ((1, 0, 1),)))
        for one, other in ((p, q), (q, p), (p, p)):
            self.assertIs(paper_holds(one, other, right), True)
            self.assertTrue(is_right(one, other, right))
            self.assertEqual(paper(one, other), right)
            self.refuse((("", ((1, 0, 1),)), ("x", ((1, 0, 1),))), one, other)
            self.refuse((("", ((0, 1, 1),)), ("x", ((0, 1, 1),))), one, other)
            self.refuse((("", ((1, 1, 2),)), ("x", ((1, 1, 2),))), one, other)
            self.refuse((("", ((1, 1),)),), one, other)
        self.assertIs(paper_holds(q, q, (("", ((1, 1),)),)), True)
        # Here all inputs stand in one mode, so each entry may be taken.
        for sums in ((1, 0, 1), (0, 1, 1), (1, 1, 2), (-1, 2, 1), (5, -2, 3)):
            self.assertIs(paper_holds(q, q, (("", (sums,)), ("x", ((1, 0, 1),)))), True)
        self.refuse((("", ((1, 1, 1),)), ("x", ((1, 0, 1),))), q, q)

    def test_changes_of_papers_by_the_words_of_the_document(self):
        chance = Chance(55)
        for program in some_programs(56, 10):
            twin = chance.one_of(list(twins_of(program)))
            right = paper(program, twin)
            answers = []
            for _ in range(20):
                at, letter = chance.below(len(right)), chance.below(len(program.letters))
                whole = list(right[at][1][letter])
                whole[chance.below(len(whole))] += chance.one_of([-1, 1, 2])
                value = with_sum(right, at, letter, tuple(whole))
                expected = has_form(value, program) and is_right(program, twin, value)
                self.assertIs(paper_holds(program, twin, value), expected)
                answers.append(expected)
            self.assertIn(False, answers)

    def test_nothing_is_changed(self):
        value = paper(self.p, self.q)
        for _ in range(2):
            self.assertTrue(paper_holds(self.p, self.q, value))
        self.assertEqual(value, self.paper)
        self.assertEqual((str(self.p), str(self.q)), (MIRROR, TWINS))


if __name__ == "__main__":
    unittest.main()
