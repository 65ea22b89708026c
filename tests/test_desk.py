"""[24] and [25]: desks, and [1] to [4] as far as they speak of them."""

import unittest

from growntexts.alike import parting
from growntexts.desk import Desk
from growntexts.live import Live
from growntexts.programs import Program
from growntexts.reaching import first_input
from growntexts.shaping import turned
from growntexts.writing import stand, write
from tests.samples import LONG, MIRROR, OTHER, TWINS, any_values, outcome
from tests.twins import Chance, inputs, some_programs


def line_of(text):
    """The text of a program in one line."""
    return text.replace("\n", " ; ")


def desk_with(**texts):
    """A desk that keeps programs with these texts."""
    desk = Desk()
    for name, text in texts.items():
        desk.say(f"keep {name} {line_of(text)}")
    return desk


def word_of(text):
    """The word of an answer."""
    return "none" if text is None else text or "-"


def told_of(desk, *names):
    """What a desk tells of its programs and its live reader."""
    rows = [(name, outcome(desk.say, f"write {name} {text or '-'}")) for name in names for text in ("", "x", "xy", "yyx")]
    live = desk.live
    return rows, live, None if live is None else (str(live.program), live.spot, live.texts, live.heard, len(live))


class CommandsTest(unittest.TestCase):
    def test_the_examples(self):
        desk = Desk()
        said = [desk.say("keep m " + line_of(MIRROR)), desk.say("keep o " + line_of(OTHER))]
        said += [desk.say("alike m o"), desk.say("first m abba"), desk.say("write m -")]
        self.assertEqual(said, ["1", "1", "xy", "xy", "-"])
        said = [desk.say(command) for command in ("read o", "on xy", "boxes", "undo", "boxes")]
        self.assertEqual(said, ["-", "abab", "0 ab ab", "undone", "0 - -"])
        self.assertEqual(desk.say(command="undo"), "nothing")

    def test_a_new_desk(self):
        desk = Desk()
        self.assertIsNone(desk.live)
        self.assertIn("live", vars(desk))
        self.assertEqual(outcome(desk.say, "write m -"), ("InvalidCommand", {}))

    def test_keep(self):
        desk = Desk()
        for name, text, modes in (("a", MIRROR, "1"), ("long", LONG, "2"), ("bc", TWINS, "1"), ("none", LONG, "2")):
            self.assertEqual(desk.say(f"keep {name} {line_of(text)}"), modes)
            self.assertEqual(desk.say(f"write {name} yy"), word_of(write(Program.read(text), "yy")))
        self.assertEqual(desk.say("keep a " + line_of(LONG)), "2")
        self.assertEqual(desk.say("alike a long"), "alike")

    def test_the_words_of_commands_can_be_names(self):
        desk = Desk()
        for name in ("keep", "turn", "read", "on", "undo"):
            desk.say(f"keep {name} {line_of(MIRROR)}")
        self.assertEqual(desk.say("read read"), "-")
        self.assertEqual(desk.say("on x"), "aa")
        self.assertEqual(desk.say("alike on undo"), "alike")
        self.assertEqual(desk.say("turn keep keep"), "1")

    def test_turn(self):
        desk = desk_with(l=LONG, m=MIRROR)
        self.assertEqual(desk.say("turn l new"), "2")
        for text in inputs("xy", 4):
            self.assertEqual(desk.say(f"write new {text or '-'}"), word_of(write(turned(Program.read(LONG)), text)))
            self.assertEqual(desk.say(f"write l {text or '-'}"), word_of(write(Program.read(LONG), text)))
        # In the place of one that is kept.
        self.assertEqual(desk.say("turn m new"), "1")
        self.assertEqual(desk.say("alike m new"), "alike")
        # To the own name.
        self.assertEqual(desk.say("turn l l"), "2")
        self.assertEqual(desk.say("write l -"), write(Program.read(LONG), "")[::-1])
        self.assertEqual(desk.say("turn l l"), "2")
        self.assertEqual(desk.say("write l -"), write(Program.read(LONG), ""))

    def test_write(self):
        desk = desk_with(m=MIRROR, l=LONG)
        for name, text in (("m", MIRROR), ("l", LONG)):
            for one in inputs("xy", 5):
                self.assertEqual(desk.say(f"write {name} {one or '-'}"), word_of(write(Program.read(text), one)))
        self.assertEqual((desk.say("write l y"), desk.say("write m -"), desk.say("write m x")), ("none", "-", "aa"))

    def test_alike(self):
        desk = desk_with(m=MIRROR, t=TWINS, o=OTHER, l=LONG)
        programs = {"m": MIRROR, "t": TWINS, "o": OTHER, "l": LONG}
        for one, text in programs.items():
            for other, second in programs.items():
                found = parting(Program.read(text), Program.read(second))
                self.assertEqual(desk.say(f"alike {one} {other}"), "alike" if found is None else found or "-")
        self.assertEqual((desk.say("alike m t"), desk.say("alike m l"), desk.say("alike t o")), ("alike", "-", "xy"))

    def test_first(self):
        desk = desk_with(m=MIRROR, l=LONG)
        for name, program in (("m", Program.read(MIRROR)), ("l", Program.read(LONG))):
            for text in inputs("ab", 5):
                self.assertEqual(desk.say(f"first {name} {text or '-'}"), word_of(first_input(program, text)))
        self.assertEqual((desk.say("first m -"), desk.say("first m ab"), desk.say("first m bb")), ("-", "none", "y"))

    def test_a_live_reader(self):
        desk = desk_with(l=LONG)
        program = Program.read(LONG)
        self.assertEqual(desk.say("read l"), word_of(write(program, "")))
        self.assertIs(type(desk.live), Live)
        self.assertEqual(desk.say("boxes"), "1 ab -")
        heard = ""
        for letters in ("x", "", "yy", "y", "xxy", ""):
            heard += letters
            self.assertEqual(desk.say(f"on {letters or '-'}"), word_of(write(program, heard)))
            mode, texts = stand(program, heard)
            self.assertEqual(desk.say("boxes"), " ".join([str(mode)] + [text or "-" for text in texts]))
            self.assertEqual(desk.live.heard, heard)
        self.assertEqual(len(desk.live), 6)
        self.assertEqual([desk.say("undo") for _ in range(8)], ["undone"] * 6 + ["nothing"] * 2)
        self.assertEqual(desk.say("boxes"), "1 ab -")

    def test_a_new_live_reader(self):
        desk = desk_with(m=MIRROR, o=OTHER)
        desk.say("read m")
        desk.say("on xy")
        first = desk.live
        self.assertEqual(desk.say("read m"), "-")
        self.assertIsNot(desk.live, first)
        self.assertEqual((desk.live.heard, first.heard, desk.say("undo")), ("", "xy", "nothing"))
        desk.say("read o")
        self.assertEqual(desk.say("boxes"), "0 - -")

    def test_a_name_kept_anew_while_a_reader_goes_on(self):
        desk = desk_with(m=MIRROR)
        desk.say("read m")
        desk.say("on x")
        desk.say("keep m " + line_of(OTHER))
        self.assertEqual(desk.say("on y"), "abba")
        self.assertEqual(desk.say("boxes"), "0 ab")
        self.assertEqual(desk.say("write m xy"), "abab")
        desk.say("turn m m")
        self.assertEqual(desk.say("undo"), "undone")
        self.assertEqual(desk.live.program, Program.read(MIRROR))

    def test_the_live_reader_can_be_asked_itself(self):
        desk = desk_with(m=MIRROR)
        desk.say("read m")
        desk.live.take("x")
        self.assertEqual((desk.say("boxes"), desk.say("undo"), desk.say("boxes")), ("0 a", "undone", "0 -"))

    def test_two_desks(self):
        one, other = desk_with(m=MIRROR), desk_with(m=OTHER)
        one.say("read m")
        self.assertIsNone(other.live)
        other.say("read m")
        one.say("on xy")
        self.assertEqual((one.say("boxes"), other.say("boxes")), ("0 ab", "0 - -"))
        one.say("keep k " + line_of(LONG))
        self.assertEqual(outcome(other.say, "write k x"), ("InvalidCommand", {}))
        self.assertEqual((one.say("write m xy"), other.say("write m xy")), ("abba", "abab"))

    def test_newlines(self):
        desk = Desk()
        # Replaced from left to right: what is left of ` ; ; ` is no form.
        self.assertEqual(outcome(desk.say, "keep m " + line_of(MIRROR).replace(" ; end", " ; ; end")), ("InvalidText", {"at": 4}))
        self.assertEqual(outcome(desk.say, "keep m ; " + line_of(MIRROR)), ("InvalidText", {"at": 0}))
        self.assertEqual(outcome(desk.say, "keep m " + line_of(MIRROR) + " ;"), ("InvalidText", {"at": 4}))
        self.assertEqual(outcome(desk.say, "keep m ;"), ("InvalidText", {"at": 0}))
        self.assertEqual(outcome(desk.say, "write m ;"), ("InvalidCommand", {}))

    def test_programs_made_by_counting(self):
        chance = Chance(141)
        for program in some_programs(142, 40):
            desk = desk_with(p=str(program))
            text = "".join(chance.one_of(program.letters) for _ in range(5))
            self.assertEqual(desk.say("turn p q"), str(program.modes))
            self.assertEqual(desk.say("write q " + text), word_of(None if write(program, text) is None else write(program, text)[::-1]))
            self.assertEqual(desk.say("read p"), word_of(write(program, "")))
            self.assertEqual(desk.say("on " + text), word_of(write(program, text)))
            found = parting(program, turned(program))
            self.assertEqual(desk.say("alike p q"), "alike" if found is None else found or "-")


WRONG = [
    "", " ", "  ", "boxes ", " boxes", "boxes  ", "Boxes", "box", "undo undo", "undo -", "boxes 0", "on", "on x x", "on x ", "on  x",
    "read", "read m m", "read -", "read M", "read k", "read mmmmm", "write", "write m", "write m x x", "write k x", "write - x",
    "write m X", "write m x-", "write m --", "write m 1", "write m x;", "write m  x", "write  m x", "alike", "alike m", "alike m k",
    "alike k m", "alike m m m", "alike m -", "first", "first m", "first m A", "first k a", "first m a a", "first m \n", "turn m",
    "turn", "turn k m", "turn m mmmmm", "turn m -", "turn m M", "turn m m m", "turn m m1", "turn mmmmm m", "keep", "keep m", "keep  ",
    "keep m ", "keep mmmmm x", "keep M x", "keep - x", "keep m  x", "keep m x ", "keep 1 x", "keep m x\n", "write m x\n", "\n", "\nboxes",
    "boxes\n", "keep \u00e9 x", "write m \u00e9", "write\tm x", "write m\tx", "boxes;", "; boxes", "-", "m", "xy", "keep;m x", "on X", "on 1",
]


class WrongCommandsTest(unittest.TestCase):
    def setUp(self):
        self.desk = desk_with(m=MIRROR, o=OTHER)
        self.desk.say("read o")
        self.desk.say("on xy")

    def check(self, command, kind="InvalidCommand", **attributes):
        before = told_of(self.desk, "m", "o", "k")
        self.assertEqual(outcome(self.desk.say, command), (kind, attributes), command)
        self.assertEqual(told_of(self.desk, "m", "o", "k"), before)

    def test_any_values(self):
        for value in any_values():
            self.check(value)

    def test_no_commands(self):
        for command in WRONG:
            self.check(command)
        for command in ("keep\nm " + line_of(MIRROR), "keep m " + MIRROR, "keep m  " + line_of(MIRROR), "keep m " + line_of(MIRROR) + " ",
                        "keep m " + line_of(MIRROR).replace(" ; ", " ;  ", 1)):
            self.check(command)

    def test_all_right_commands_with_a_word_more_or_less(self):
        right = ["keep k " + line_of(MIRROR), "turn m k", "write m xy", "alike m o", "first m ab", "read m", "on x", "boxes", "undo"]
        for command in right:
            words = command.split(" ")
            desk = desk_with(m=MIRROR, o=OTHER)
            desk.say("read o")
            desk.say(command)
            if words[0] != "keep":
                self.check(command + " x")
            for at in range(min(len(words), 3)):
                self.check(" ".join(words[:at]))
                self.check(" ".join(words[:at] + [""] + words[at:]))
                if words[0] != "boxes" and words[0] != "undo":
                    self.check(" ".join(words[:at] + ["Q"] + words[at + 1:]) if (words[0], at) != ("keep", 2) else "keep")

    def test_no_live_reader(self):
        desk = desk_with(m=MIRROR)
        for command in ("on x", "on -", "on z", "boxes", "undo"):
            self.assertEqual(outcome(desk.say, command), ("InvalidCommand", {}))
        self.assertIsNone(desk.live)

    def test_errors_of_texts(self):
        line = line_of(MIRROR)
        self.check("keep k x", "InvalidText", at=0)
        self.check("keep m " + line.replace("way 0 y", "way 0 x"), "InvalidText", at=3)
        self.check("keep m " + line.replace("end 0", "end 1"), "InvalidText", at=4)
        self.check("keep k " + line + " ; end", "InvalidText", at=5)
        self.check("keep k " + line.replace("signs ab", "signs aa"), "InvalidProgram", word="signs")
        self.check("keep k " + line.replace("way 0 x 0", "way 0 x 3"), "InvalidProgram", word="ways")
        self.check("keep m " + line.replace("begin 0 -", "begin 0 - -"), "InvalidProgram", word="begin")
        self.check("keep m " + line.replace("end 0 0 ~0", "end 0 1"), "InvalidProgram", word="ends")

    def test_errors_of_the_functions_that_answer(self):
        self.check("write m xyzx", "InvalidInput", at=2)
        self.check("write m a", "InvalidInput", at=0)
        self.check("first m abxa", "InvalidText", at=2)
        self.check("on xxxz", "Refused", at=3)
        self.check("on z", "Refused", at=0)
        self.desk.say("keep k " + line_of(MIRROR).replace("letters xy", "letters xz").replace("way 0 y", "way 0 z"))
        self.check("alike m k", "InvalidPair", word="letters")
        self.check("alike k o", "InvalidPair", word="letters")

    def test_wrong_commands_are_told_ahead_of_other_errors(self):
        self.check("write k z")
        self.check("alike k m")
        self.check("write m zz zz")
        self.check("keep mmmmm x")
        self.check("first k 1")

    def test_a_refused_command_changes_nothing(self):
        self.check("keep m x", "InvalidText", at=0)
        self.assertEqual(self.desk.say("write m xy"), "abba")
        self.check("on xz", "Refused", at=1)
        self.assertEqual((self.desk.say("boxes"), self.desk.say("undo"), self.desk.say("undo")), ("0 ab ab", "undone", "nothing"))


if __name__ == "__main__":
    unittest.main()
