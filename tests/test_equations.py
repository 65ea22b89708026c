"""[15] and [16]: equations, and [1] to [4] as far as they speak of them."""

import itertools
import unittest

from growntexts.equations import always_same, around, first_unlike, leads, same_rows
from growntexts.programs import Program
from growntexts.settings import Setting
from growntexts.shapes import Shape, within
from growntexts.shaping import behind, turned
from growntexts.writing import row_text, stand
from tests.samples import LONG, MIRROR, OTHER, TWINS, any_values, outcome, program_of
from tests.twins import Chance, doubled, inputs, reach_of, rehoused, some_program, some_programs, some_row, some_small_programs


def texts_there(program, mode, longest):
    """All inputs of at most so many letters that lead to a mode, with the texts of the boxes."""
    found = []
    for text in inputs(program.letters, longest):
        spot, texts = stand(program, text)
        if spot == mode:
            found.append((text, texts))
    return found


def all_short_rows(boxes):
    parts = [(kind, box) for kind in ("box", "turned") for box in range(boxes)]
    return [()] + [(part,) for part in parts] + list(itertools.product(parts, repeat=2))


def setting_row(setting):
    """The row of parts that makes the text that a setting makes."""
    row = [("told", setting.head), ("turned" if setting.is_turned else "box", setting.source), ("told", setting.tail)]
    return [part for part in row if part[1] != ""]


def settings_told(program, mode):
    return [(box, str(setting)) for box, setting in around(program, mode)]


ROWS = [[], (), [("box", 0)], (("turned", 0),), [("told", "ab")], [("box", 0), ("told", "a"), ("turned", 0)]]


class LeadsTest(unittest.TestCase):
    def test_all_modes(self):
        for program in some_small_programs(71, 80):
            for mode in range(program.modes):
                there = texts_there(program, mode, 6)
                self.assertEqual(leads(program, mode), there[0][0] if there else None)

    def test_the_beginning_and_no_input(self):
        program = Program.read(LONG)
        self.assertEqual((leads(program, 1), leads(program=program, mode=0)), ("", "y"))
        lonely = program_of("program signs a letters x", "begin 1 -", "way 0 x 1 .0.", "way 1 x 1 .0.", "end 0 0", "end 1 0")
        self.assertEqual((leads(lonely, 0), leads(lonely, 1)), (None, ""))

    def test_the_order_of_letters(self):
        for letters in ("xy", "yx"):
            settings = [Setting(0)]
            ways = [[(1, settings), (1, settings)], [(2, settings), (2, settings)], [(0, settings), (0, settings)]]
            program = Program("a", letters, (0, [""]), ways, [None] * 3)
            self.assertEqual([leads(program, mode) for mode in range(3)], ["", letters[0], letters[0] * 2])

    def test_the_limits(self):
        # A round of six modes.
        ways = [[((mode + 1) % 6, [Setting(0)])] for mode in range(6)]
        program = Program("a", "x", (5, [""]), ways, [None] * 6)
        self.assertEqual([leads(program, mode) for mode in range(6)], ["x", "xx", "xxx", "xxxx", "xxxxx", ""])


class FirstUnlikeTest(unittest.TestCase):
    def check(self, program, mode, one, other, longest):
        there = texts_there(program, mode, longest)
        found = next((text for text, texts in there if row_text(one, texts) != row_text(other, texts)), None)
        answer = first_unlike(program, mode, one, other)
        self.assertIs(always_same(program, mode, one, other), answer is None)
        if found is not None or answer is None:
            self.assertEqual(answer, found, (str(program), mode, one, other))
        else:
            self.assertGreater(len(answer), longest)
            spot, texts = stand(program, answer)
            self.assertEqual(spot, mode)
            self.assertNotEqual(row_text(one, texts), row_text(other, texts))
        return answer

    def test_the_examples(self):
        twins = Program.read(TWINS)
        self.assertIs(always_same(twins, 0, [("box", 1)], [("turned", 0)]), True)
        self.assertEqual(first_unlike(twins, 0, [("box", 0), ("box", 1)], [("box", 1), ("box", 0)]), "xy")
        self.assertEqual(first_unlike(other=[("box", 0)], one=[("box", 1)], mode=0, program=twins), "xy")
        self.assertIs(always_same(other=[("box", 0)], one=[("box", 1)], mode=0, program=twins), False)

    def test_programs_made_by_counting(self):
        chance = Chance(72)
        answers = []
        for program in some_small_programs(73, 100):
            for mode in range(program.modes):
                for _ in range(3):
                    one, other = [some_row(chance, program.signs, program.boxes, 2) or [] for _ in range(2)]
                    answers.append(self.check(program, mode, one, other, reach_of(program.letters) - 1))
        self.assertGreater(len([answer for answer in answers if answer and len(answer) > 1]), 20)

    def test_boxes_kept_turned_about(self):
        # Box 0 twice over, the second time turned about.
        for program in some_programs(74, 40):
            if program.boxes != 1:
                continue
            ways = [
                [
                    (target, [one, Setting(None, one.head[::-1])]) if one.source is None else
                    (target, [one, Setting(1, one.tail[::-1], one.head[::-1], one.is_turned)])
                    for target, (one,) in row
                ]
                for row in program.ways
            ]
            mode, (text,) = program.begin
            wide = Program(program.signs, program.letters, (mode, [text, text[::-1]]), ways, [None] * program.modes)
            for spot in range(wide.modes):
                self.assertTrue(always_same(wide, spot, [("box", 1)], [("turned", 0)]))
                self.assertTrue(always_same(wide, spot, [("box", 1), ("box", 0)], [("turned", 0), ("turned", 1)]))
                self.check(wide, spot, [("box", 1)], [("box", 0)], reach_of(wide.letters) - 1)

    def test_no_input_leads_there(self):
        program = program_of("program signs ab letters x", "begin 1 a", "way 0 x 1 .0.", "way 1 x 1 .0.", "end 0 0", "end 1 0")
        for one, other in itertools.product(ROWS, repeat=2):
            self.assertIs(always_same(program, 0, one, other), True)
            self.assertIsNone(first_unlike(program, 0, one, other))
        self.assertEqual(first_unlike(program, 1, [], [("told", "b")]), "")

    def test_rows_of_no_part_and_of_told_texts(self):
        twins = Program.read(TWINS)
        self.assertTrue(always_same(twins, 0, [], ()))
        self.assertTrue(always_same(twins, 0, [("told", "ab"), ("told", "a")], (("told", "a"), ("told", "ba"))))
        self.assertEqual(first_unlike(twins, 0, [("told", "ab")], [("told", "ba")]), "")
        self.assertEqual(first_unlike(twins, 0, [], [("told", "a")]), "")
        self.assertEqual(first_unlike(twins, 0, [], [("box", 0)]), "x")
        self.assertEqual(first_unlike(twins, 0, [("told", "a")], [("box", 0)]), "")

    def test_unlike_late(self):
        # Box 1 falls behind only when the sixth mode is left.
        lines = ["program signs ab letters x", "begin 0 - -"]
        lines += [f"way {mode} x {(mode + 1) % 6} a.0. {'.1.b' if mode == 5 else 'a.1.'}" for mode in range(6)]
        program = program_of(*lines, *[f"end {mode} none" for mode in range(6)])
        self.assertEqual(first_unlike(program, 0, [("box", 0)], [("box", 1)]), "x" * 6)
        self.assertEqual(first_unlike(program, 3, [("box", 0)], [("box", 1)]), "x" * 9)
        self.assertEqual(first_unlike(program, 0, [("box", 0)], [("turned", 0)]), None)

    def test_rows_of_four_parts_and_long_texts(self):
        twins = behind(Program.read(TWINS), "xyyx" * 10)
        one = [("told", "aba"), ("box", 0), ("turned", 1), ("told", "bb")]
        other = [("told", "aba"), ("turned", 1), ("box", 0), ("told", "bb")]
        self.assertTrue(always_same(twins, 0, one, other))
        self.assertEqual(first_unlike(twins, 0, one, one[::-1]), "")

    def test_what_is_written_does_not_matter(self):
        text = LONG.replace("end 1 1 =ba ~0 0", "end 1 none")
        for mode in (0, 1):
            for one, other in itertools.product([[("box", 0)], [("box", 1)], [("turned", 0)]], repeat=2):
                answer = first_unlike(Program.read(LONG), mode, one, other)
                self.assertEqual(first_unlike(Program.read(text), mode, one, other), answer)
                self.check(Program.read(LONG), mode, one, other, 5)


class SameRowsTest(unittest.TestCase):
    def test_the_example(self):
        found = same_rows(Program.read(TWINS), 0)
        self.assertEqual(len(found), 6)
        box, turned_box = ("box", 0), ("turned", 0)
        box1, turned1 = ("box", 1), ("turned", 1)
        self.assertEqual(found, (
            ((box,), (turned1,)),
            ((box, box), (box, turned1), (turned1, box), (turned1, turned1)),
            ((box, box1), (box, turned_box), (turned1, box1), (turned1, turned_box)),
            ((box1,), (turned_box,)),
            ((box1, box), (box1, turned1), (turned_box, box), (turned_box, turned1)),
            ((box1, box1), (box1, turned_box), (turned_box, box1), (turned_box, turned_box)),
        ))
        self.assertEqual(same_rows(mode=0, program=Program.read(TWINS)), found)

    def test_by_equations(self):
        sizes = []
        for program in some_small_programs(75, 40):
            rows = sorted(all_short_rows(program.boxes))
            for mode in range(program.modes):
                found = same_rows(program, mode)
                if leads(program, mode) is None:
                    self.assertEqual(found, ())
                    continue
                classes = []
                for row in rows:
                    fitting = [one for one in classes if always_same(program, mode, one[0], row)]
                    if fitting:
                        fitting[0].append(row)
                    else:
                        classes.append([row])
                self.assertEqual(found, tuple(sorted(tuple(one) for one in classes if len(one) > 1)))
                self.assertEqual({type(one) for one in found} | {type(row) for one in found for row in one} | {tuple}, {tuple})
                sizes.extend(len(one) for one in found)
        self.assertGreater(max(sizes), 3)

    def test_by_all_short_inputs(self):
        for program in some_small_programs(76, 40):
            for mode in range(program.modes):
                there = texts_there(program, mode, reach_of(program.letters) - 1)
                for rows in same_rows(program, mode):
                    for _, texts in there:
                        self.assertEqual(len({row_text(row, texts) for row in rows}), 1)

    def test_one_box(self):
        mirror = Program.read(MIRROR)
        self.assertEqual(same_rows(mirror, 0), ())
        one = program_of("program signs a letters x", "begin 0 -", "way 0 x 0 a.0.", "end 0 none")
        box, turned_box = ("box", 0), ("turned", 0)
        pairs = tuple(itertools.product([box, turned_box], repeat=2))
        self.assertEqual(same_rows(one, 0), (((box,), (turned_box,)), pairs))

    def test_a_box_that_is_always_empty(self):
        program = program_of("program signs a letters x", "begin 0 -", "way 0 x 0 .~0.", "end 0 none")
        self.assertEqual(same_rows(program, 0), (tuple(sorted(all_short_rows(1))),))
        program = program_of("program signs ab letters x", "begin 0 ab -", "way 0 x 0 .0. .1.", "end 0 none")
        found = same_rows(program, 0)
        self.assertEqual(found[0], ((), (("box", 1),), (("box", 1), ("box", 1)), (("box", 1), ("turned", 1)), (("turned", 1),),
                                    (("turned", 1), ("box", 1)), (("turned", 1), ("turned", 1))))

    def test_no_input_leads_there(self):
        program = program_of("program signs a letters x", "begin 1 a", "way 0 x 1 .0.", "way 1 x 1 .0.", "end 0 0", "end 1 0")
        self.assertEqual((same_rows(program, 0), around(program, 0)), ((), ()))
        self.assertEqual(len(same_rows(program, 1)), 2)

    def test_classes_of_modes(self):
        # In mode 0 both boxes are the same, in mode 1 one of them is turned about.
        program = program_of("program signs ab letters x", "begin 0 ab ab", "way 0 x 1 a.0. .~1.a", "way 1 x 0 .0.b .~1.b",
                             "end 0 0", "end 1 0")
        self.assertEqual(settings_told(program, 0), [(0, ".1."), (1, ".0.")])
        self.assertEqual(settings_told(program, 1), [(0, ".~1."), (1, ".~0.")])
        self.assertIn(((("box", 0),), (("box", 1),)), same_rows(program, 0))
        self.assertIn(((("box", 0),), (("turned", 1),)), same_rows(program, 1))


class AroundTest(unittest.TestCase):
    def test_the_example(self):
        self.assertEqual(settings_told(Program.read(TWINS), 0), [(0, ".~1."), (1, ".~0.")])
        self.assertEqual(around(mode=0, program=Program.read(OTHER)), ())
        found = around(Program.read(TWINS), 0)
        self.assertEqual([type(one) for one in (found, *found)], [tuple] * 3)
        self.assertIsInstance(found[0][1], Setting)

    def settings_of(self, program, mode):
        """All settings around that hold, by equations of rows."""
        _, texts = stand(program, leads(program, mode))
        found = []
        for box, source in itertools.permutations(range(program.boxes), 2):
            many = len(texts[box]) - len(texts[source])
            for length in range(many + 1):
                for head, tail in itertools.product(
                    map("".join, itertools.product(program.signs, repeat=length)),
                    map("".join, itertools.product(program.signs, repeat=many - length)),
                ):
                    pair = [Setting(source, head, tail, is_turned) for is_turned in (False, True)]
                    right = [one for one in pair if always_same(program, mode, [("box", box)], setting_row(one))]
                    found.extend([(box, str(one)) for one in right[:1]])
        return sorted(found)

    def test_by_equations(self):
        many = 0
        chance = Chance(77)
        for _ in range(80):
            letters = chance.one_of(["x", "xy"])
            program = some_program(chance, chance.one_of(["a", "ab"]), letters, 1 + chance.below(2), 2, 1)
            if chance.below(3) == 0:
                program = doubled(program)
            for mode in range(program.modes):
                if leads(program, mode) is not None:
                    found = settings_told(program, mode)
                    self.assertEqual(found, self.settings_of(program, mode))
                    many += len(found)
        self.assertGreater(many, 40)

    def test_by_all_short_inputs(self):
        for program in some_small_programs(78, 60):
            for mode in range(program.modes):
                there = texts_there(program, mode, reach_of(program.letters) - 1)
                for box, setting in around(program, mode):
                    self.assertNotEqual(box, setting.source)
                    for _, texts in there:
                        self.assertEqual(setting.over(texts[setting.source]), texts[box])

    def test_told_signs_on_both_sides(self):
        program = program_of("program signs ab letters xy", "begin 0 b abbb", "way 0 x 0 a.0.b aba.0.bb", "way 0 y 0 ba.0. abba.0.b",
                             "end 0 none")
        self.assertEqual(settings_told(program, 0), [(1, "ab.0.b")])
        self.assertEqual(settings_told(program_of(*str(program).replace("abbb", "abba").split("\n")), 0), [])

    def test_texts_that_are_the_same_either_way_about(self):
        # Box 0 is a row of a only: turned about it is the same, so that is not told.
        program = program_of("program signs ab letters x", "begin 0 - b", "way 0 x 0 a.0. .1.a", "end 0 none")
        self.assertEqual(settings_told(program, 0), [(1, "b.0.")])
        # Signs can stand on either side of it; all these are told.
        program = program_of("program signs ab letters x", "begin 0 - aa", "way 0 x 0 a.0. .1.a", "end 0 none")
        self.assertEqual(settings_told(program, 0), [(1, ".0.aa"), (1, "a.0.a"), (1, "aa.0.")])
        # Where it is not the same, only the setting that turns about is told.
        program = program_of("program signs ab letters xy", "begin 0 - -", "way 0 x 0 a.0. .1.a", "way 0 y 0 b.0. .1.b",
                             "end 0 none")
        self.assertEqual(settings_told(program, 0), [(0, ".~1."), (1, ".~0.")])

    def test_one_input_alone(self):
        # Only the empty input leads to mode 0.
        program = program_of("program signs ab letters x", "begin 0 - ab", "way 0 x 1 a.0. .1.", "way 1 x 1 a.0. .1.",
                             "end 0 0", "end 1 0")
        self.assertEqual(settings_told(program, 0), [(1, ".0.ab"), (1, "a.0.b"), (1, "ab.0.")])
        self.assertEqual(settings_told(program, 1), [])
        program = program_of("program signs ab letters x", "begin 0 ab ba", "way 0 x 1 a.0. .1.", "way 1 x 1 a.0. .1.",
                             "end 0 0", "end 1 0")
        self.assertEqual(settings_told(program, 0), [(0, ".~1."), (1, ".~0.")])

    def test_one_box_has_no_other_one(self):
        self.assertEqual(around(Program.read(MIRROR), 0), ())

    def test_long_texts(self):
        program = behind(Program.read(TWINS), "xy" * 20)
        self.assertEqual(settings_told(program, 0), [(0, ".~1."), (1, ".~0.")])
        # A box that was empty stands anywhere in a long one.
        program = program_of("program signs ab letters x", "begin 0 - -", "way 0 x 0 .0. a.1.bb", "end 0 none")
        far = behind(within(program, Shape("x", [[None]], [0])), "")
        self.assertEqual(settings_told(far, 0), [(0, ".1."), (1, ".0.")])
        far = behind(program, "x" * 30)
        self.assertEqual(settings_told(far, 0), [])
        held = Program(far.signs, far.letters, far.begin, [[(0, [Setting(0), Setting(1)])]], far.ends)
        self.assertEqual(len(around(held, 0)), 91)

    def test_rehoused_programs(self):
        for program in some_programs(79, 30):
            if program.boxes == 2:
                other = rehoused(program, [1, 0], [0, 0])
                for mode in range(program.modes):
                    expected = sorted((1 - box, str(Setting(1 - one.source, one.head, one.tail, one.is_turned)))
                                      for box, one in around(program, mode))
                    self.assertEqual(settings_told(other, mode), expected)
                    self.assertEqual(around(turned(program), mode), around(program, mode))


WORKS = [leads, same_rows, around]
TWO_ROWS = [always_same, first_unlike]


class WrongArgumentsTest(unittest.TestCase):
    def setUp(self):
        self.program = Program.read(TWINS)

    def is_mode(self, value):
        return type(value) is int and value == 0

    def test_modes(self):
        for value in any_values() + [-1, 1, 2, 1.0, "0"]:
            if type(value) is float or self.is_mode(value):
                continue
            for work in WORKS:
                self.assertEqual(outcome(work, self.program, value), ("NoMode", {"mode": value}))
            for work in TWO_ROWS:
                self.assertEqual(outcome(work, self.program, value, [], []), ("NoMode", {"mode": value}))
                # Ahead of all else.
                self.assertEqual(outcome(work, self.program, value, None, 3), ("NoMode", {"mode": value}))

    def test_bools_are_no_modes(self):
        program = Program.read(LONG)
        for value in (True, False):
            for work in WORKS:
                kind, found = outcome(work, program, value)
                self.assertEqual((kind, found["mode"] is value), ("NoMode", True))
            for work in TWO_ROWS:
                self.assertEqual(outcome(work, program, value, [], [])[0], "NoMode")

    def at_of(self, value):
        """Where a value is no row for these programs, told anew, or None."""
        if not isinstance(value, (list, tuple)):
            return 0
        for at, part in enumerate(value):
            is_part = isinstance(part, tuple) and len(part) == 2 and type(part[0]) is str and (
                (part[0] in ("box", "turned") and type(part[1]) is int and part[1] in (0, 1))
                or (part[0] == "told" and type(part[1]) is str and part[1] != "" and set(part[1]) <= {"a", "b"})
            )
            if not is_part:
                return at
        return None

    def test_rows(self):
        right = [("box", 0), ("told", "ab")]
        values = any_values() + [right + [value] for value in any_values()] + [(value, value) for value in any_values()]
        values += [[("told", value)] for value in any_values()] + [[("box", value)] for value in any_values()]
        values += [[("turned", value)] for value in any_values()] + [[(value, 0)] for value in any_values()]
        values += [[["box", 0]], [("box", 0, 0)], [("box",)], [("Box", 0)], [("box", 2)], [("told", "abc")], [("told", "")]]
        refused = 0
        for value in values:
            at = self.at_of(value)
            for work in TWO_ROWS:
                if at is None:
                    self.assertEqual(outcome(work, self.program, 0, value, right)[0], "returns")
                    self.assertEqual(outcome(work, self.program, 0, right, value)[0], "returns")
                else:
                    refused += 1
                    self.assertEqual(outcome(work, self.program, 0, value, right), ("InvalidRow", {"at": at}))
                    self.assertEqual(outcome(work, self.program, 0, right, value), ("InvalidRow", {"at": at}))
        self.assertGreater(refused, 200)

    def test_the_first_row_is_refused_ahead_of_the_second_one(self):
        wrong = [(None, 0), ([("box", 0), 3], 1), ([("box", 1), ("told", "a"), ("told", "")], 2)]
        for (one, at), (other, _) in itertools.product(wrong, repeat=2):
            for work in TWO_ROWS:
                self.assertEqual(outcome(work, self.program, 0, one, other), ("InvalidRow", {"at": at}))

    def test_rows_are_refused_where_no_input_leads(self):
        program = program_of("program signs a letters x", "begin 1 a", "way 0 x 1 .0.", "way 1 x 1 .0.", "end 0 0", "end 1 0")
        for work in TWO_ROWS:
            self.assertEqual(outcome(work, program, 0, [], None), ("InvalidRow", {"at": 0}))

    def test_nothing_is_changed(self):
        one, other = [("box", 0), ("box", 1)], [("box", 1), ("box", 0)]
        before = [first_unlike(self.program, 0, one, other), same_rows(self.program, 0), around(self.program, 0)]
        self.assertEqual((one, other), ([("box", 0), ("box", 1)], [("box", 1), ("box", 0)]))
        for value in any_values():
            outcome(first_unlike, self.program, 0, one, value)
            outcome(same_rows, self.program, value)
        self.assertEqual(str(self.program), TWINS)
        self.assertEqual([first_unlike(self.program, 0, one, other), same_rows(self.program, 0)], before[:2])
        self.assertEqual([str(setting) for _, setting in around(self.program, 0)], [str(setting) for _, setting in before[2]])


if __name__ == "__main__":
    unittest.main()
