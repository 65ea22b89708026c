"""[7]: texts of programs, reading them, equality, and ways."""

import itertools
import unittest

from growntexts.errors import InvalidText
from growntexts.programs import Program
from growntexts.settings import Setting
from tests.samples import HEAD, LONG, MIRROR, OTHER, TWINS, any_values, long_arguments, outcome

LINES = LONG.split("\n")
FIRST_FORMS = {
    0: [
        "", "program", "program signs ab letters", "program signs ab letters xy z", "program signs ab letters xy ",
        " program signs ab letters xy", "program  signs ab letters xy", "program signs ab  letters xy",
        "Program signs ab letters xy", "program letters ab signs xy", "program sign ab letters xy",
        "program signs ab letter xy", "program signs - letters xy", "program signs ab letters -",
        "program signs  letters xy", "program signs ab letters ", "program signs Ab letters xy",
        "program signs ab letters x1", "program signs a\u00e9 letters xy", "program signs ab letters x\uff41",
        "program signs ab\tletters xy", "program signs ab letters xy\r", "signs ab letters xy", "program ab xy",
        "programm signs ab letters xy", "program signs a,b letters x,y", "program signs ~0 letters xy",
    ],
    1: [
        "", "begin", "begin 1", "begin 1 ", "begin -", "begin ab -", "begin 1 ab - ", " begin 1 ab -", "begin  1 ab -",
        "begin 1  ab -", "begin 1 ab  -", "begin 01 ab -", "begin 00 ab -", "begin 100 ab -", "begin -1 ab -",
        "begin +1 ab -", "begin \u0661 ab -", "begin \u00b2 ab -", "begin 1_0 ab -", "begin ~1 ab -",
        "begin 1 ab --", "begin 1 ab A", "begin 1 aB -", "begin 1 =ab -", "begin 1 a- -", "begin 1 ab -b",
        "begin 1 0 -", "begin 1 ab \u00e9", "begin 1 ab -\r", "Begin 1 ab -", "begins 1 ab -", "1 ab -", "begin 1.0 ab -",
        "begin - - -", "begin x ab -", "way 1 ab -", "begin 1 ab .0.", "begin 1 a,b -",
    ],
    2: [
        "", "way", "way 0", "way 0 x", "way 0 x 0", "way 0 x 0 ", "way 0 x .1. .0.", "way 0 x 0 .1.  .0.",
        "way 0 x 0 .1. .0. ", " way 0 x 0 .1. .0.", "way  0 x 0 .1. .0.", "way 0 x 0 .1. 0", "way 0 x 0 .1. .0",
        "way 0 x 0 .1. ..", "way 0 x 0 .1. a", "way 0 x 0 .01. .0.", "way 0 x 0 .100. .0.", "way 0 x 0 .-.a .0.",
        "way 0 x 0 .~-. .0.", "way 0 x 0 A.1. .0.", "way 0 x 0 .1. .0.,", "way 0 y 0 .1. .0.", "way 0 z 0 .1. .0.",
        "way 0 xy 0 .1. .0.", "way 0 X 0 .1. .0.", "way 0  0 .1. .0.", "way 1 x 0 .1. .0.", "way 00 x 0 .1. .0.",
        "way x 0 0 .1. .0.", "way 0 x 00 .1. .0.", "way 0 x 01 .1. .0.", "way 0 x 100 .1. .0.", "way 0 x -1 .1. .0.",
        "way 0 x \u0661 .1. .0.", "way 0 x - .1. .0.", "way 0 x x .1. .0.", "Way 0 x 0 .1. .0.", "ways 0 x 0 .1. .0.",
        "end 0 none", "way 0 x 0 .1. .0.\r", "way 0 x 0 - -", "way 0 x 0 none", "0 x 0 .1. .0.", "way - x 0 .1. .0.",
        "way \u0660 x 0 .1. .0.", "way 0 x 0 .1. =a", "way 0 x 0 .1. ~0", "begin 1 ab -",
    ],
    3: ["", "way 0 x 0 .1. .0.", "way 1 y 1 .1. .0.", "way 1 x 1 .1. .0.", "end 0 none", "way 0 y", "way 0 y 1"],
    4: [
        "", "way 0 x 1 .1. .0.", "way 2 x 1 .1. .0.", "way 1 y 1 .1. .0.", "way 01 x 1 .1. .0.", "end 1 none",
        "way 1", "way", "way ", "end", "end 0 ", "end 00",
    ],
    5: ["", "way 1 x 1 .1. .0.", "way 2 y 1 .1. .0.", "end 0 none", "way 1 y 1 .1. .0. ", "way 1 y"],
    6: [
        "", "end", "end ", "end 0 ", "end 0  none", " end 0 none", "end 1 none", "end 00 none", "end x none",
        "end - none", "end none", "end 0 None", "end 0 none none", "end 0 none 0", "end 0 0 none", "end 0 =", "end 0 =A",
        "end 0 =a b", "end 0 = a", "end 0 =-", "end 0 =0", "end 0 =\u00e9", "end 0 ==a", "end 0 ~", "end 0 ~=a",
        "end 0 ~~0", "end 0 00", "end 0 01", "end 0 100", "end 0 ~00", "end 0 ~100", "end 0 -", "end 0 -1", "end 0 a",
        "end 0 \u0661", "end 0 ~\u0661", "end 0 \u00b2", "end 0 .0.", "end 0 0 ", "end 0 0  0", "End 0 none",
        "ends 0 none", "end 0 none\r", "way 2 y 0 .0. .0.", "way 2", "way", "way 0 x 0 .1. .0.", "0 none", "end 0 0,1",
        "end 0 +0", "end 0 0~", "end 0 a=",
    ],
    7: ["", "end 0 none", "end 2 none", "end 1 =", "end 01 none", "end", "way 2 x 0 .0. .0.", "end 1 ", "end 10 none"],
}


def text_of(lines):
    return "\n".join(lines)


class ExamplesTest(unittest.TestCase):
    def test_texts_are_read_back(self):
        for text in (MIRROR, TWINS, OTHER, LONG):
            program = Program.read(text)
            self.assertIsInstance(program, Program)
            self.assertEqual(str(program), text)
            self.assertEqual(vars(Program.read(text=str(program))), vars(program))

    def test_the_text_of_a_program(self):
        self.assertEqual(str(Program(**long_arguments())), LONG)
        self.assertEqual(Program.read(LONG), Program(**long_arguments()))

    def test_the_first_program_of_the_overview(self):
        self.assertEqual(vars(Program.read(MIRROR)), {
            "signs": "ab",
            "letters": "xy",
            "begin": (0, ("",)),
            "ways": (((0, (Setting(0, "a"),)), (0, (Setting(0, "", "b"),))),),
            "ends": ((("box", 0), ("turned", 0)),),
            "modes": 1,
            "boxes": 1,
        })

    def test_the_other_programs_of_the_overview(self):
        twins = Program.read(TWINS)
        self.assertEqual(Program.read(str(twins).replace("b.1.", ".1.b")).way(0, "y")[1][1], Setting(1, "", "b"))
        self.assertEqual(twins.way(0, "y"), (0, (Setting(0, "", "b"), Setting(1, "b"))))
        self.assertEqual(twins.boxes, 2)

    def test_a_row_without_parts(self):
        text = "program signs a letters x\nbegin 0 -\nway 0 x 0 .-.\nend 0"
        program = Program.read(text)
        self.assertEqual(program.ends, ((),))
        self.assertEqual(str(program), text)
        self.assertEqual(str(Program("a", "x", (0, [""]), [[(0, [Setting(None)])]], [[]])), text)

    def test_refused_is_not_the_empty_row(self):
        text = "program signs a letters x\nbegin 0 -\nway 0 x 0 .-.\nend 0 none"
        self.assertEqual(Program.read(text).ends, (None,))
        self.assertEqual(str(Program.read(text)), text)

    def test_words_that_could_be_mistaken(self):
        lines = ["program signs noe letters way", "begin 0 none one", "way 0 w 0 none.-. .0.", "way 0 a 0 .1. .-."]
        text = text_of(lines + ["way 0 y 0 .~0. one.~1.none", "end 0 =none 0 =one"])
        program = Program.read(text)
        self.assertEqual(program.begin, (0, ("none", "one")))
        self.assertEqual(program.ends, ((("told", "none"), ("box", 0), ("told", "one")),))
        self.assertEqual(str(program), text)

    def test_modes_of_two_digits(self):
        for modes in (1, 9, 10, 11, 100):
            lines = ["program signs a letters x", f"begin {modes - 1} a"]
            lines += [f"way {mode} x {modes - 1 - mode} .0.a" for mode in range(modes)]
            lines += [f"end {mode} 0" for mode in range(modes)]
            program = Program.read(text_of(lines))
            self.assertEqual((str(program), program.modes), (text_of(lines), modes))

    def test_boxes_of_two_digits(self):
        settings = [Setting((box + 1) % 12) for box in range(12)]
        row = [("box", 10), ("turned", 11), ("box", 9)]
        program = Program("a", "x", (0, ["a"] * 12), [[(0, settings)]], [row])
        self.assertTrue(str(program).endswith("\nend 0 10 ~11 9"))
        self.assertEqual(Program.read(str(program)), program)


class InvalidTextTest(unittest.TestCase):
    def check(self, text, at):
        self.assertEqual(outcome(Program.read, text), ("InvalidText", {"at": at}), text)

    def test_the_base_is_right(self):
        self.assertEqual(str(Program.read(LONG)), LONG)

    def test_lines_of_another_form(self):
        for at, lines in FIRST_FORMS.items():
            for line in lines:
                self.check(text_of(LINES[:at] + [line] + LINES[at + 1:]), at)
                self.check(text_of(LINES[:at] + [line]), at)

    def test_the_first_wrong_line_is_told(self):
        for one, other in itertools.combinations(range(len(LINES)), 2):
            lines = list(LINES)
            lines[one] = lines[other] = "what"
            self.check(text_of(lines), one)

    def test_a_line_out(self):
        for at in range(len(LINES)):
            self.check(text_of(LINES[:at] + LINES[at + 1:]), at)

    def test_a_line_twice(self):
        for at in range(len(LINES)):
            self.check(text_of(LINES[:at + 1] + LINES[at:]), at + 1)

    def test_lines_exchanged(self):
        for one, other in itertools.combinations(range(len(LINES)), 2):
            lines = list(LINES)
            lines[one], lines[other] = lines[other], lines[one]
            # The end of mode 0 may stand behind its ways, but then all ends stand there.
            self.check(text_of(lines), 5 if (one, other) == (4, 6) else one)

    def test_lines_lack_at_the_end(self):
        for many in range(1, len(LINES)):
            self.check(text_of(LINES[:many]), many)
            self.check(text_of(LINES[:many]) + "\n", many)

    def test_the_empty_text(self):
        self.check("", 0)
        self.check("\n", 0)
        self.check(" ", 0)

    def test_further_lines(self):
        for line in ("", " ", "end 2 none", "end 1 none", LINES[-1], LINES[0], "way 2 x 0 .0. .0."):
            self.check(LONG + "\n" + line, 8)
        self.check(LONG + "\n\n", 8)
        self.check("\n" + LONG, 0)
        self.check(LONG.replace("\n", "\n\n"), 1)

    def test_other_ends_of_lines(self):
        self.check(LONG.replace("\n", "\r\n"), 0)
        self.check(LONG.replace("\n", "\r"), 0)
        self.check(LONG.replace("\n", "\u2028"), 0)
        self.check(LONG + "\r", 7)
        self.check(LONG.replace("\nend", "\x0bend"), 5)

    def test_spaces(self):
        for at, line in enumerate(LINES):
            for place in [place for place, sign in enumerate(line) if sign == " "]:
                double = line[:place] + " " + line[place:]
                self.check(text_of(LINES[:at] + [double] + LINES[at + 1:]), at)
            self.check(text_of(LINES[:at] + [line + " "] + LINES[at + 1:]), at)
            self.check(text_of(LINES[:at] + [" " + line] + LINES[at + 1:]), at)
            self.check(text_of(LINES[:at] + [line.replace(" ", "\t")] + LINES[at + 1:]), at)

    def test_words_taken_away_or_changed(self):
        for at, line in enumerate(LINES):
            words = line.split(" ")
            for place in range(len(words)):
                for word in ("", "?", "A", "00", "-0", words[place] + ";", words[place].upper() + "Z"):
                    other = " ".join(words[:place] + [word] + words[place + 1:])
                    self.check(text_of(LINES[:at] + [other] + LINES[at + 1:]), at)

    def test_a_mode_is_read_whole(self):
        # The ways of mode 1 are out, so its end is a further line.
        self.check(text_of(LINES[:4] + LINES[6:]), 5)
        # The ways of both modes are out.
        self.check(text_of(LINES[:2] + LINES[6:]), 2)
        # A third mode has ways, but no end.
        third = ["way 2 x 0 .0. .1.", "way 2 y 0 .0. .1."]
        self.check(text_of(LINES[:6] + third + LINES[6:]), 10)
        self.check(text_of(LINES[:6] + third[:1] + LINES[6:]), 7)
        # A third mode has only one way.
        self.check(text_of(LINES[:6] + third[:1] + LINES[7:]), 7)
        # Ends stand behind all ways.
        self.check(text_of(LINES[:4] + LINES[6:7] + LINES[4:6] + LINES[7:]), 5)

    def test_numbers_have_two_digits_at_most(self):
        lines = ["program signs a letters x", "begin 0 a"] + [f"way {mode} x 0 .0." for mode in range(101)]
        self.check(text_of(lines + [f"end {mode} 0" for mode in range(101)]), 102)

    def test_form_is_told_ahead_of_wrong_arguments(self):
        wrong = LONG.replace("signs ab", "signs aa")
        self.assertEqual(outcome(Program.read, wrong), ("InvalidProgram", {"word": "signs"}))
        self.check(wrong + "\n", 8)
        self.check(wrong.replace("end 1", "end 2"), 7)


class InvalidProgramTest(unittest.TestCase):
    def check(self, word, *changes):
        text = LONG
        for old, new in changes:
            self.assertIn(old, text)
            text = text.replace(old, new)
        self.assertEqual(outcome(Program.read, text), ("InvalidProgram", {"word": word}), text)

    def test_signs_and_letters(self):
        self.check("signs", ("signs ab", "signs aba"))
        self.check("signs", ("signs ab", "signs aba"), (" y ", " x "), ("letters xy", "letters xx"))
        self.check("letters", (" y ", " x "), ("letters xy", "letters xx"))

    def test_ways(self):
        self.check("ways", ("way 0 x 0", "way 0 x 2"))
        self.check("ways", ("way 1 y 0", "way 1 y 99"))
        self.check("ways", ("b.-.", "c.-."))
        self.check("ways", (".0.b", ".0.bbz"))
        self.check("ways", ("b.-.", "c.-."), ("begin 1", "begin 2"), ("end 0 none", "end 0 7"))
        self.check("ways", ("signs ab", "signs bc"))

    def test_begin(self):
        self.check("begin", ("begin 1", "begin 2"))
        self.check("begin", ("begin 1", "begin 99"))
        self.check("begin", ("begin 1 ab -", "begin 1 abc -"))
        self.check("begin", ("begin 1 ab -", "begin 1 ab"))
        self.check("begin", ("begin 1 ab -", "begin 1 ab - -"))
        self.check("begin", (".1. .0.", ".1."))
        self.check("begin", (".1. .0.", ".1. .0. .0."))
        self.check("begin", (".1. .0.", ".1. .2."))
        self.check("begin", (".1. .0.", ".99. .0."))
        self.check("begin", (".1. .0.", ".~99. .0."), ("end 0 none", "end 0 7"))

    def test_ends(self):
        self.check("ends", ("end 0 none", "end 0 2"))
        self.check("ends", ("end 0 none", "end 0 ~99"))
        self.check("ends", ("=ba", "=bac"))


class EqualTest(unittest.TestCase):
    def test_equal_if_the_texts_are(self):
        texts = [MIRROR, TWINS, OTHER, LONG, LONG.replace("begin 1", "begin 0"), LONG.replace("ab -", "ab b")]
        texts += [LONG.replace("end 0 none", line) for line in ("end 0", "end 0 0", "end 0 ~0", "end 0 =a", "end 0 =b")]
        texts += [LONG.replace("=ba", "=b =a"), LONG.replace("end 1 1", "end 1 0"), LONG.replace("~0 0", "0 ~0")]
        texts += [LONG.replace("letters xy", "letters xz").replace(" y ", " z ")]
        texts += [LONG.replace("signs ab", "signs ba"), LONG.replace("signs ab", "signs abc")]
        texts += [LONG.replace("way 0 x 0", "way 0 x 1"), LONG.replace(".0.b", "b.0."), LONG.replace(".~1.", ".1.")]
        for one, other in itertools.product(texts, texts):
            self.assertIs(Program.read(one) == Program.read(other), one == other)
            self.assertIs(Program.read(one) != Program.read(other), one != other)

    def test_lists_and_tuples_make_equal_programs(self):
        read = Program.read(LONG)
        self.assertEqual(Program(read.signs, read.letters, read.begin, read.ways, read.ends), read)
        self.assertEqual(Program(**long_arguments()), read)

    def test_equal_to_nothing_of_another_class(self):
        program = Program.read(LONG)
        for value in any_values() + [str(program), vars(program), LINES, object()]:
            self.assertIs(program == value, False)
            self.assertIs(program != value, True)


class WayTest(unittest.TestCase):
    def test_ways(self):
        program = Program(**long_arguments())
        self.assertEqual(program.way(0, "x"), (0, (Setting(1), Setting(0))))
        self.assertEqual(program.way(0, "y"), (1, (Setting(None, "b"), Setting(0, "a", "bb", True))))
        self.assertEqual(program.way(1, "x"), (1, (Setting(1, "", "", True), Setting(1, "aa"))))
        self.assertEqual(program.way(letter="y", mode=1), (0, (Setting(0, "", "a"), Setting(0, "", "b"))))
        self.assertIs(type(program.way(1, "y")), tuple)
        self.assertIs(type(program.way(1, "y")[1]), tuple)

    def test_letters_by_their_places(self):
        lines = ["program signs abc letters zay", "begin 0 -"]
        lines += ["way 0 z 0 a.0.", "way 0 a 0 b.0.", "way 0 y 0 c.0.", "end 0 0"]
        program = Program.read(text_of(lines))
        for letter, head in zip("zay", "abc"):
            self.assertEqual(program.way(0, letter), (0, (Setting(0, head),)))

    def test_no_mode(self):
        program = Program.read(LONG)
        for value in any_values():
            if type(value) is int and 0 <= value < 2:
                continue
            for letter in ("x", "z", "", None, value):
                kind, kept = outcome(program.way, value, letter)
                self.assertEqual((kind, list(kept)), ("NoMode", ["mode"]))
                self.assertIs(kept["mode"], value)

    def test_no_letter(self):
        program = Program.read(LONG)
        for value in any_values():
            if value not in ("x", "y"):
                self.assertEqual(outcome(program.way, 1, value), ("InvalidInput", {"at": 0}), value)

    def test_reading_changes_nothing(self):
        program = Program.read(LONG)
        with self.assertRaises(InvalidText):
            Program.read("")
        program.way(0, "x")
        self.assertEqual(str(program), LONG)
        self.assertEqual(str(Program.read(LONG)), LONG)
        self.assertTrue(LONG.startswith(HEAD))


if __name__ == "__main__":
    unittest.main()
