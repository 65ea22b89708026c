"""[8]: standing and writing, and [1] to [3] as far as they speak of them."""

import unittest

from growntexts.programs import Program
from growntexts.settings import Setting
from growntexts.writing import row_text, stand, write
from tests.samples import LONG, MIRROR, OTHER, TWINS, any_values, outcome, program_of
from tests.twins import inputs


class ExamplesTest(unittest.TestCase):
    def test_the_overview(self):
        self.assertEqual(write(Program.read(MIRROR), "xy"), "abba")
        self.assertEqual(write(Program.read(OTHER), "xy"), "abab")

    def test_the_example_of_writing(self):
        twins = Program.read(TWINS)
        self.assertEqual(stand(twins, "xyx"), (0, ("aab", "baa")))
        self.assertEqual(row_text([("box", 1), ("told", "a"), ("turned", 0)], ("ab", "ba")), "baaba")
        self.assertEqual(write(twins, ""), "")

    def test_the_programs_of_the_overview_for_many_inputs(self):
        mirror, twins, other = [Program.read(text) for text in (MIRROR, TWINS, OTHER)]
        for text in inputs("xy", 6):
            ahead, behind = "a" * text.count("x"), "b" * text.count("y")
            box = ahead + behind
            self.assertEqual(stand(mirror, text), (0, (box,)))
            self.assertEqual(stand(twins, text), (0, (box, box[::-1])))
            self.assertEqual(write(mirror, text), box + box[::-1])
            self.assertEqual(write(twins, text), box + box[::-1])
            second = text.replace("x", "a").replace("y", "b")
            self.assertEqual(stand(other, text), (0, (box, second)))
            self.assertEqual(write(other, text), box + second)


class StandTest(unittest.TestCase):
    def test_the_empty_input(self):
        self.assertEqual(stand(Program.read(LONG), ""), (1, ("ab", "")))
        self.assertEqual(stand(Program.read(MIRROR), ""), (0, ("",)))

    def test_tuples_are_returned(self):
        for text in ("", "x", "xy"):
            found = stand(Program.read(LONG), text)
            self.assertEqual((type(found), type(found[1])), (tuple, tuple))

    def test_modes_and_boxes(self):
        program = Program.read(LONG)
        self.assertEqual(stand(program, "x"), (1, ("", "aa")))
        self.assertEqual(stand(program, "y"), (0, ("aba", "abb")))
        self.assertEqual(stand(program, "yx"), (0, ("abb", "aba")))
        self.assertEqual(stand(program, "yy"), (1, ("b", "aababb")))
        self.assertEqual(stand(program, "yyx"), (1, ("bbabaa", "aaaababb")))
        self.assertEqual(stand(program, "yyxy"), (0, ("bbabaaa", "bbabaab")))

    def test_all_boxes_are_set_from_the_elder_ones(self):
        program = program_of("program signs ab letters x", "begin 0 a b", "way 0 x 0 .1. .0.", "end 0 0")
        self.assertEqual(stand(program, "x"), (0, ("b", "a")))
        self.assertEqual(stand(program, "xx"), (0, ("a", "b")))

    def test_one_box_is_copied_to_several(self):
        program = program_of("program signs ab letters x", "begin 0 a b", "way 0 x 0 .1.a b.~1.", "end 0 0 1")
        self.assertEqual(stand(program, "x"), (0, ("ba", "bb")))
        self.assertEqual(stand(program, "xx"), (0, ("bba", "bbb")))

    def test_no_source(self):
        program = program_of("program signs ab letters xy", "begin 0 a b", "way 0 x 0 ab.-. .-.", "way 0 y 0 .1.a .0.b",
                             "end 0 0 1")
        self.assertEqual(stand(program, "x"), (0, ("ab", "")))
        self.assertEqual(stand(program, "yyyx"), (0, ("ab", "")))
        self.assertEqual(stand(program, "xy"), (0, ("a", "abb")))

    def test_turned_about(self):
        program = program_of("program signs abc letters x", "begin 0 ab", "way 0 x 0 c.~0.ab", "end 0 0")
        self.assertEqual(stand(program, "x"), (0, ("cbaab",)))
        self.assertEqual(stand(program, "xx"), (0, ("cbaabcab",)))

    def test_letters_are_led_by_their_places(self):
        program = program_of("program signs abc letters zay", "begin 0 -", "way 0 z 0 .0.a", "way 0 a 0 .0.b",
                             "way 0 y 0 .0.c", "end 0 0")
        self.assertEqual(stand(program, "zayyaz"), (0, ("abccba",)))

    def test_long_inputs(self):
        self.assertEqual(write(Program.read(MIRROR), "xy" * 24), "a" * 24 + "b" * 48 + "a" * 24)

    def test_by_name(self):
        program = Program.read(MIRROR)
        self.assertEqual(stand(text="x", program=program), (0, ("a",)))
        self.assertEqual(write(text="x", program=program), "aa")
        self.assertEqual(row_text(texts=("a",), row=[("box", 0)]), "a")

    def test_nothing_is_changed(self):
        program = Program.read(LONG)
        first = [stand(program, text) for text in inputs("xy", 4)]
        self.assertEqual([stand(program, text) for text in inputs("xy", 4)], first)
        self.assertEqual(str(program), LONG)


class InvalidInputTest(unittest.TestCase):
    def check(self, program, value, at):
        for work in (stand, write):
            self.assertEqual(outcome(work, program, value), ("InvalidInput", {"at": at}), value)

    def test_any_values(self):
        for program in (Program.read(MIRROR), Program.read(LONG)):
            for value in any_values():
                if type(value) is not str:
                    self.check(program, value, 0)
                    continue
                foreign = [at for at, sign in enumerate(value) if sign not in ("x", "y")]
                if foreign:
                    self.check(program, value, foreign[0])
                else:
                    self.assertEqual(outcome(stand, program, value)[0], "returns")

    def test_the_first_one_is_told(self):
        program = Program.read(MIRROR)
        wrong = [("z", 0), ("xz", 1), ("xyxyz", 4), ("zxyz", 0), ("xzza", 1), ("x y", 1), ("xy ", 2), (" xy", 0)]
        wrong += [("xy\n", 2), ("X", 0), ("xY", 1), ("a", 0), ("x-", 1), ("x\u00e9", 1), ("x\uff58", 1), ("x" * 48 + "b", 48)]
        for text, at in wrong:
            self.check(program, text, at)

    def test_things_that_are_no_strings(self):
        for value in (["x"], ("x", "y"), [], (), None, 0, True, Setting(0), ["x", "z"], [["x"]]):
            self.check(Program.read(MIRROR), value, 0)

    def test_refused_inputs_are_told_wrong_too(self):
        program = program_of("program signs a letters x", "begin 0 -", "way 0 x 0 .0.", "end 0 none")
        self.check(program, "xxa", 2)
        self.assertIsNone(write(program, "xx"))


class RowTextTest(unittest.TestCase):
    def test_parts(self):
        texts = ("ab", "bba")
        self.assertEqual(row_text([("box", 0)], texts), "ab")
        self.assertEqual(row_text([("turned", 1)], texts), "abb")
        self.assertEqual(row_text([("told", "cab")], texts), "cab")
        self.assertEqual(row_text([("box", 1), ("box", 0), ("turned", 0), ("told", "c")], texts), "bbaabbac")
        self.assertEqual(row_text([("told", "ab"), ("told", "c"), ("turned", 1), ("turned", 1)], texts), "abcabbabb")

    def test_empty_rows_and_texts(self):
        self.assertEqual(row_text([], ("a",)), "")
        self.assertEqual(row_text((), ()), "")
        self.assertEqual(row_text([("box", 0), ("turned", 1)], ("", "")), "")

    def test_lists_and_tuples(self):
        parts = [("box", 1), ("told", "a"), ("turned", 0)]
        texts = ["ab", "ba"]
        for row in (parts, tuple(parts)):
            for boxes in (texts, tuple(texts)):
                self.assertEqual(row_text(row, boxes), "baaba")
        self.assertEqual((parts, texts), ([("box", 1), ("told", "a"), ("turned", 0)], ["ab", "ba"]))


class WriteTest(unittest.TestCase):
    def test_refused_inputs(self):
        program = Program.read(LONG)
        self.assertEqual(write(program, ""), "baba" + "ab")
        self.assertIsNone(write(program, "y"))
        self.assertIsNone(write(program, "yx"))
        self.assertEqual(write(program, "yy"), "aababb" + "ba" + "b" + "b")
        self.assertEqual(write(program, "yyx"), "aaaababb" + "ba" + "aababb" + "bbabaa")

    def test_the_empty_text_is_no_refusal(self):
        program = program_of("program signs a letters xy", "begin 0 -", "way 0 x 0 .0.", "way 0 y 1 .0.a",
                             "way 1 x 2 .0.", "way 1 y 1 .0.a", "way 2 x 0 .0.", "way 2 y 0 .0.", "end 0", "end 1 none",
                             "end 2 =a 0")
        self.assertEqual(write(program, ""), "")
        self.assertEqual(write(program, "xx"), "")
        self.assertIsNone(write(program, "y"))
        self.assertEqual(write(program, "yyx"), "aaa")
        self.assertEqual(write(program, "yyxx"), "")

    def test_rows_by_the_mode_behind_the_input(self):
        program = program_of("program signs abc letters x", "begin 2 -", "way 0 x 1 .0.", "way 1 x 2 .0.", "way 2 x 0 .0.",
                             "end 0 =a", "end 1 =b", "end 2 =c")
        self.assertEqual([write(program, "x" * many) for many in range(5)], ["c", "a", "b", "c", "a"])


if __name__ == "__main__":
    unittest.main()
