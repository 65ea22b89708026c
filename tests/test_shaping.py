"""[9]: programs made from other ones, and [1] to [4] as far as they speak of them."""

import itertools
import unittest

from growntexts.programs import Program
from growntexts.settings import Setting
from growntexts.shaping import behind, joined, recoded, respelt, skipping, turned
from growntexts.writing import stand, write
from tests.samples import LONG, MIRROR, OTHER, TWINS, any_values, outcome, program_of
from tests.twins import Chance, inputs, reach_of, some_program, some_programs


def respelt_by(text, signs, table):
    return None if text is None else "".join(table[signs.index(sign)] for sign in text)


def some_pairs(seed, many):
    """Pairs of small programs with the same letters."""
    chance = Chance(seed)
    for _ in range(many):
        letters = chance.one_of(["x", "xy", "zyx"])
        sign_pairs = [("ab", "ab"), ("ab", "ba"), ("a", "b"), ("cb", "ac"), ("b", "abc"), ("ca", "b")]
        rows = [
            some_program(chance, signs, letters, 1 + chance.below(3), 1 + chance.below(2), chance.below(4))
            for signs in chance.one_of(sign_pairs)
        ]
        yield rows[0], rows[1]


class Kept(unittest.TestCase):
    def check_kept(self, made, program, names):
        """Whether a program that was made has the same as the program in all that is named."""
        self.assertIsInstance(made, Program)
        for name in names.split():
            self.assertEqual(getattr(made, name), getattr(program, name), name)
        self.assertEqual(Program.read(str(made)), made)


class ShapingTest(unittest.TestCase):
    def test_examples(self):
        mirror, other = Program.read(MIRROR), Program.read(OTHER)
        self.assertEqual(write(joined(mirror, other), "xy"), "abbaabab")
        self.assertEqual(write(recoded(mirror, "yx"), "x"), write(mirror, "y"))
        for text in inputs("xy", 6):
            self.assertEqual(write(turned(mirror), text), write(mirror, text))

    def test_by_name(self):
        mirror = Program.read(MIRROR)
        self.assertEqual(turned(program=mirror), turned(mirror))
        self.assertEqual(skipping(letter="x", program=mirror), skipping(mirror, "x"))
        self.assertEqual(recoded(table="yy", program=mirror), recoded(mirror, "yy"))
        self.assertEqual(respelt(table="ba", program=mirror), respelt(mirror, "ba"))
        self.assertEqual(behind(text="x", program=mirror), behind(mirror, "x"))
        self.assertEqual(joined(q=mirror, p=behind(mirror, "x")), joined(behind(mirror, "x"), mirror))

    def test_nothing_is_changed(self):
        program = Program.read(LONG)
        rows = []
        for _ in range(2):
            made = [turned(program), skipping(program, "x"), recoded(program, "yx"), respelt(program, "ba")]
            made += [behind(program, "yx"), joined(program, program)]
            self.assertEqual(str(program), LONG)
            rows.append([str(one) for one in made])
        self.assertEqual(rows[0], rows[1])

    def test_more_than_the_limits(self):
        word = "abcdefghijklmnopqrstuvwxyz"
        settings = [Setting((box + 1) % 12, word) for box in range(12)]
        row = [("box", 11), ("turned", 10), ("told", word)] * 3
        program = Program(word, word, (4, [word] * 12), [[(4, settings)] * 26] * 5, [row] * 5)
        text = "xyz"
        self.assertEqual(write(turned(program), text), write(program, text)[::-1])
        self.assertEqual(write(skipping(program, "y"), text), write(program, "xz"))
        self.assertEqual(write(recoded(program, word[::-1]), text), write(program, "cba"))
        self.assertEqual(write(respelt(program, word[::-1]), text), respelt_by(write(program, text), word, word[::-1]))
        self.assertEqual(write(behind(program, "x"), "yz"), write(program, text))
        self.assertEqual(write(joined(program, program), text), write(program, text) * 2)


class TurnedTest(Kept):
    def test_all_inputs(self):
        for program in some_programs(1, 60):
            made = turned(program)
            self.check_kept(made, program, "signs letters begin ways modes boxes")
            for text in inputs(program.letters, reach_of(program.letters) - 1):
                written = write(program, text)
                self.assertEqual(write(made, text), None if written is None else written[::-1])

    def test_ends(self):
        program = Program.read(LONG)
        self.assertEqual(turned(program).ends[0], None)
        self.assertEqual(write(turned(program), "yyx"), write(program, "yyx")[::-1])
        empty = program_of("program signs ab letters x", "begin 0 ab", "way 0 x 0 .0.", "end 0")
        self.assertEqual(write(turned(empty), "x"), "")

    def test_told_texts_boxes_and_turned_boxes(self):
        base = ["program signs abc letters x", "begin 0 ab abb", "way 0 x 0 .0.c .1."]
        for row, written in (("=abc", "cba"), ("0", "ba"), ("~0", "ab"), ("=ab 0 ~1", "abbbaba"), ("1 =c 0", "bacbba")):
            self.assertEqual(write(turned(program_of(*base, "end 0 " + row)), ""), written)


class SkippingTest(Kept):
    def test_all_inputs(self):
        for program in some_programs(2, 60):
            for letter in program.letters:
                made = skipping(program, letter)
                self.check_kept(made, program, "signs letters begin modes boxes ends")
                for text in inputs(program.letters, reach_of(program.letters) - 1):
                    self.assertEqual(stand(made, text), stand(program, text.replace(letter, "")))
                    self.assertEqual(write(made, text), write(program, text.replace(letter, "")))

    def test_other_letters_keep_their_ways(self):
        program = Program.read(LONG)
        for mode in (0, 1):
            self.assertEqual(skipping(program, "x").way(mode, "y"), program.way(mode, "y"))
            self.assertEqual(skipping(program, "x").way(mode, "x"), (mode, (Setting(0), Setting(1))))
            self.assertEqual(skipping(program, "y").way(mode, "y"), (mode, (Setting(0), Setting(1))))

    def test_no_letter(self):
        for program in (Program.read(MIRROR), Program.read(LONG)):
            for value in any_values() + ["xx", "xyx", ["x"], ("y",)]:
                if value not in ("x", "y"):
                    self.assertEqual(outcome(skipping, program, value), ("InvalidInput", {"at": 0}), value)


class RecodedTest(Kept):
    def test_all_inputs(self):
        for program in some_programs(3, 40):
            letters = program.letters
            for row in itertools.product(letters, repeat=len(letters)):
                table = "".join(row)
                made = recoded(program, table)
                self.check_kept(made, program, "signs letters begin modes boxes ends")
                for text in inputs(letters, min(4, reach_of(letters))):
                    self.assertEqual(stand(made, text), stand(program, respelt_by(text, letters, table)))
                    self.assertEqual(write(made, text), write(program, respelt_by(text, letters, table)))

    def test_letters_in_another_order(self):
        program = program_of("program signs abc letters zay", "begin 0 -", "way 0 z 0 .0.a", "way 0 a 0 .0.b",
                             "way 0 y 0 .0.c", "end 0 0")
        self.assertEqual(write(recoded(program, "azz"), "zay"), "baa")
        self.assertEqual(write(recoded(program, "ayz"), "zay"), "bca")
        self.assertEqual(recoded(program, "zay"), program)

    def test_no_table(self):
        for program in (Program.read(MIRROR), Program.read(LONG)):
            tables = ("xx", "xy", "yx", "yy")
            for value in any_values() + ["xyx", "xyxy", "xz", "zx", "XY", "x ", ["x", "y"], ("y", "x"), ["xy"]]:
                if value not in tables:
                    self.assertEqual(outcome(recoded, program, value), ("InvalidInput", {"at": 0}), value)

    def test_one_letter(self):
        program = program_of("program signs a letters x", "begin 0 -", "way 0 x 0 .0.a", "end 0 0")
        self.assertEqual(recoded(program, "x"), program)
        for value in ("", "a", "xx", "y"):
            self.assertEqual(outcome(recoded, program, value), ("InvalidInput", {"at": 0}))


class RespeltTest(Kept):
    def test_all_inputs(self):
        for program in some_programs(4, 40):
            signs = program.signs
            for row in itertools.product(signs, repeat=len(signs)):
                table = "".join(row)
                made = respelt(program, table)
                self.check_kept(made, program, "signs letters modes boxes")
                for text in inputs(program.letters, min(4, reach_of(program.letters))):
                    self.assertEqual(write(made, text), respelt_by(write(program, text), signs, table))
                    mode, texts = stand(program, text)
                    self.assertEqual(stand(made, text), (mode, tuple(respelt_by(one, signs, table) for one in texts)))

    def test_all_told_texts(self):
        program = Program.read(LONG)
        self.assertEqual(str(respelt(program, "ba")), "\n".join([
            "program signs ab letters xy",
            "begin 1 ba -",
            "way 0 x 0 .1. .0.",
            "way 0 y 1 a.-. b.~0.aa",
            "way 1 x 1 .~1. bb.1.",
            "way 1 y 0 .0.b .0.a",
            "end 0 none",
            "end 1 1 =ab ~0 0",
        ]))

    def test_one_sign_twice(self):
        self.assertEqual(write(respelt(Program.read(MIRROR), "bb"), "xy"), "bbbb")
        self.assertEqual(respelt(Program.read(MIRROR), "bb").signs, "ab")

    def test_signs_in_another_order(self):
        program = program_of("program signs cab letters x", "begin 0 abc", "way 0 x 0 .0.a", "end 0 0 =b")
        self.assertEqual(write(respelt(program, "abc"), "x"), "bca" + "b" + "c")

    def test_no_table(self):
        for program in (Program.read(MIRROR), Program.read(LONG)):
            for value in any_values() + ["aba", "abab", "ac", "ca", "AB", "a ", ["a", "b"], ("b", "a"), ["ab"], "xy"]:
                if value not in ("aa", "ab", "ba", "bb"):
                    self.assertEqual(outcome(respelt, program, value), ("InvalidInput", {"at": 0}), value)

    def test_one_sign(self):
        program = program_of("program signs a letters x", "begin 0 -", "way 0 x 0 .0.a", "end 0 0")
        self.assertEqual(respelt(program, "a"), program)
        for value in ("", "x", "aa", "b"):
            self.assertEqual(outcome(respelt, program, value), ("InvalidInput", {"at": 0}))


class BehindTest(Kept):
    def test_all_inputs(self):
        for program in some_programs(5, 40):
            for text in inputs(program.letters, 3):
                made = behind(program, text)
                self.check_kept(made, program, "signs letters ways modes boxes ends")
                self.assertEqual(made.begin, stand(program, text))
                for further in inputs(program.letters, 3):
                    self.assertEqual(write(made, further), write(program, text + further))

    def test_the_empty_input(self):
        for text in (MIRROR, TWINS, LONG):
            self.assertEqual(behind(Program.read(text), ""), Program.read(text))

    def test_a_long_input(self):
        program = Program.read(LONG)
        for text in ("xy" * 20, "y" * 40, "xxy" * 13):
            made = behind(program, text)
            self.assertEqual(made.begin, stand(program, text))
            self.assertEqual(write(made, "yyx"), write(program, text + "yyx"))
            self.assertEqual(behind(made, "yx").begin, stand(program, text + "yx"))

    def test_no_input(self):
        for program in (Program.read(MIRROR), Program.read(LONG)):
            for value in any_values() + ["xz", "xyxyz", "zx", "xZ", ["x"], ("x", "y")]:
                kind, found = outcome(stand, program, value)
                if kind == "returns":
                    self.assertEqual(outcome(behind, program, value)[0], "returns")
                else:
                    self.assertEqual((kind, outcome(behind, program, value)), ("InvalidInput", (kind, found)))
        self.assertEqual(outcome(behind, program, "xyza"), ("InvalidInput", {"at": 2}))
        self.assertEqual(outcome(behind, program, None), ("InvalidInput", {"at": 0}))


class JoinedTest(Kept):
    def check_joined(self, p, q, longest):
        made = joined(p, q)
        self.assertEqual(Program.read(str(made)), made)
        self.assertEqual(made.letters, p.letters)
        self.assertEqual(made.signs, p.signs + "".join(sign for sign in q.signs if sign not in p.signs))
        self.assertLessEqual(made.boxes, p.boxes + q.boxes)
        self.assertLessEqual(made.modes, p.modes * q.modes)
        for row in made.ends:
            if row is not None:
                self.assertIn(len([kind for kind, _ in row if kind != "told"]), self.numbers_of_boxes(p, q))
        for text in inputs(p.letters, longest):
            one, other = write(p, text), write(q, text)
            expected = None if one is None or other is None else one + other
            self.assertEqual(write(made, text), expected)

    def numbers_of_boxes(self, p, q):
        """How many boxes rows of both programs have together."""
        counts = [
            {len([kind for kind, _ in row if kind != "told"]) for row in program.ends if row is not None}
            for program in (p, q)
        ]
        return {one + other for one in counts[0] for other in counts[1]}

    def test_all_inputs(self):
        for p, q in some_pairs(6, 60):
            self.check_joined(p, q, reach_of(p.letters) - 1)

    def test_the_programs_of_the_overview(self):
        programs = [Program.read(text) for text in (MIRROR, TWINS, OTHER, LONG)]
        for p, q in itertools.product(programs, repeat=2):
            self.check_joined(p, q, 5)

    def test_a_joined_program_is_joined_again(self):
        mirror = Program.read(MIRROR)
        self.check_joined(joined(mirror, mirror), joined(Program.read(LONG), mirror), 5)

    def test_signs(self):
        cases = [("ab", "ab", "ab"), ("ab", "ba", "ab"), ("a", "b", "ab"), ("b", "a", "ba"), ("cb", "acb", "cba"),
                 ("b", "cab", "bca"), ("abc", "c", "abc")]
        for one, other, signs in cases:
            rows = [program_of(f"program signs {word} letters x", f"begin 0 {word}", "way 0 x 0 .0.", "end 0 0")
                    for word in (one, other)]
            self.assertEqual(joined(*rows).signs, signs)
            self.assertEqual(write(joined(*rows), "x"), one + other)

    def test_rows_with_all_kinds_of_parts(self):
        p = program_of("program signs ab letters x", "begin 0 a b", "way 0 x 0 a.0. .-.", "end 0 =ab ~1 0")
        q = program_of("program signs ca letters x", "begin 0 c ca", "way 0 x 0 c.~1.a a.0.", "end 0 1 =c ~0")
        self.assertEqual(write(joined(p, q), ""), "ab" + "b" + "a" + "ca" + "c" + "c")
        self.assertEqual(write(joined(p, q), "x"), "ab" + "" + "aa" + "ac" + "c" + "caca"[::-1])
        self.check_joined(p, q, 12)

    def test_refused_by_one_of_them(self):
        p = program_of("program signs a letters x", "begin 0 -", "way 0 x 1 .0.a", "way 1 x 0 .0.", "end 0 none", "end 1 0")
        q = program_of("program signs a letters x", "begin 0 a", "way 0 x 1 .0.", "way 1 x 2 .0.", "way 2 x 0 .0.a",
                       "end 0 0", "end 1 0", "end 2 none")
        for text in inputs("x", 12):
            is_refused = len(text) % 2 == 0 or len(text) % 3 == 2
            self.assertEqual(write(joined(p, q), text) is None, is_refused)
            self.assertEqual(write(joined(q, p), text) is None, is_refused)

    def test_unlike_letters(self):
        mirror = Program.read(MIRROR)
        for letters in ("yx", "x", "y", "xyz", "xz", "ab"):
            other = Program("ab", letters, (0, [""]), [[(0, [Setting(0)])] * len(letters)], [[]])
            self.assertEqual(outcome(joined, mirror, other), ("InvalidPair", {"word": "letters"}))
            self.assertEqual(outcome(joined, other, mirror), ("InvalidPair", {"word": "letters"}))


if __name__ == "__main__":
    unittest.main()
