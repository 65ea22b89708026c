"""[23]: live readers, and [1] to [4] as far as they speak of them."""

import unittest

from growntexts.errors import InvalidInput, InvalidPair, Refused
from growntexts.live import Live
from growntexts.programs import Program
from growntexts.settings import Setting
from growntexts.shaping import respelt, turned
from growntexts.writing import stand, write
from tests.samples import LONG, MIRROR, OTHER, TWINS, any_values, outcome, program_of
from tests.twins import Chance, inputs, some_programs


def told_of(live):
    """All that a live reader tells."""
    return live.program, live.spot, live.texts, live.heard, live.shown, len(live)


class ReadingTest(unittest.TestCase):
    def test_a_new_reader(self):
        for text in (MIRROR, TWINS, OTHER, LONG):
            program = Program.read(text)
            live = Live(program)
            self.assertIs(live.program, program)
            self.assertEqual((live.spot, live.texts), program.begin)
            self.assertEqual((live.heard, live.shown, len(live)), ("", write(program, ""), 0))
        self.assertEqual(Live(program=program).spot, 1)

    def test_letter_by_letter(self):
        for program in some_programs(131, 60):
            for text in list(inputs(program.letters, 3))[-9:]:
                live = Live(program)
                for at, letter in enumerate(text):
                    self.assertEqual(live.take(letter), write(program, text[:at + 1]))
                    self.assertEqual((live.spot, live.texts), stand(program, text[:at + 1]))
                    self.assertIs(type(live.texts), tuple)
                    self.assertEqual((live.heard, live.shown), (text[:at + 1], write(program, text[:at + 1])))
                    self.assertEqual(len(live), at + 1)
                again = Live(program)
                self.assertEqual(again.several(text), tuple(write(program, text[:at + 1]) for at in range(len(text))))
                self.assertEqual(told_of(again)[:-1], told_of(live)[:-1])
                self.assertEqual(len(again), 1)

    def test_refused_ones_are_none(self):
        live = Live(Program.read(LONG))
        self.assertEqual(live.take(letter="y"), None)
        self.assertEqual(live.shown, None)
        self.assertEqual(live.several(letters="xyy"), (None, write(Program.read(LONG), "yxy"), None))

    def test_several_of_no_letters(self):
        live = Live(Program.read(MIRROR))
        self.assertEqual(live.several(""), ())
        self.assertEqual((len(live), live.heard, live.shown), (1, "", ""))
        self.assertIs(live.undo(), True)
        self.assertEqual(len(live), 0)

    def test_forty_deeds(self):
        live = Live(Program.read(TWINS))
        for many in range(40):
            live.take("xy"[many % 2])
        self.assertEqual((len(live), live.heard), (40, "xy" * 20))
        self.assertEqual(live.shown, write(Program.read(TWINS), "xy" * 20))
        for many in range(40, 0, -1):
            self.assertEqual(len(live), many)
            self.assertIs(live.undo(), True)
        self.assertIs(live.undo(), False)
        self.assertEqual(told_of(live), told_of(Live(Program.read(TWINS))))

    def test_two_readers(self):
        program = Program.read(MIRROR)
        one, other = Live(program), Live(program)
        one.take("x")
        self.assertEqual((one.heard, other.heard, len(one), len(other)), ("x", "", 1, 0))
        self.assertEqual(str(program), MIRROR)

    def test_not_iterable(self):
        live = Live(Program.read(MIRROR))
        live.take("x")
        with self.assertRaises(TypeError):
            iter(live)

    def test_properties_cannot_be_set(self):
        live = Live(Program.read(MIRROR))
        for name in ("program", "spot", "texts", "heard", "shown"):
            with self.assertRaises(AttributeError):
                setattr(live, name, None)


class ChangeTest(unittest.TestCase):
    def test_another_program_reads_on(self):
        twins, other = Program.read(TWINS), Program.read(OTHER)
        live = Live(twins)
        live.several("xy")
        self.assertIsNone(live.change(other))
        self.assertIs(live.program, other)
        self.assertEqual((live.spot, live.texts, live.heard, len(live)), (0, ("ab", "ba"), "xy", 2))
        self.assertEqual(live.take("y"), "abb" + "bab")
        self.assertIs(live.undo(), True)
        self.assertIs(live.undo(), True)
        self.assertIs(live.program, twins)
        self.assertEqual(live.take("y"), "abb" + "bba")

    def test_the_mode_and_the_texts_stay(self):
        long = Program.read(LONG)
        other = Program(long.signs, long.letters, (0, ["b", "b"]), long.ways[::-1], [[("box", 0)], None])
        live = Live(long)
        live.take("x")
        before = (live.spot, live.texts)
        live.change(program=other)
        self.assertEqual((live.spot, live.texts, live.shown), before + (None,))
        mode, settings = other.way(1, "y")
        self.assertEqual(live.take("y"), None)
        self.assertEqual((live.spot, live.texts), (mode, tuple(one.over("" if one.source is None else before[1][one.source])
                                                              for one in settings)))

    def test_what_is_shown_is_told_by_the_new_program(self):
        mirror = Program.read(MIRROR)
        live = Live(mirror)
        live.several("xxy")
        live.change(turned(mirror))
        self.assertEqual(live.shown, write(mirror, "xxy")[::-1])
        live.change(respelt(mirror, "ba"))
        self.assertEqual((live.shown, live.texts), (write(mirror, "xxy"), ("aab",)))

    def test_an_equal_program_is_a_deed_too(self):
        live = Live(Program.read(MIRROR))
        for many in range(1, 4):
            live.change(Program.read(MIRROR))
            self.assertEqual(len(live), many)
        self.assertIs(live.undo(), True)
        self.assertEqual(len(live), 2)

    def test_programs_that_do_not_go_with_it(self):
        program = Program.read(LONG)

        def other(signs="ab", letters="xy", modes=2, boxes=2):
            way = (0, [Setting(0)] * boxes)
            return Program(signs, letters, (0, [""] * boxes), [[way] * len(letters)] * modes, [None] * modes)
        cases = [("signs", {"signs": "ba"}), ("signs", {"signs": "a"}), ("signs", {"signs": "abc"}),
                 ("letters", {"letters": "yx"}), ("letters", {"letters": "x"}), ("letters", {"letters": "xyz"}),
                 ("modes", {"modes": 1}), ("modes", {"modes": 3}), ("boxes", {"boxes": 1}), ("boxes", {"boxes": 3})]
        order = ["signs", "letters", "modes", "boxes"]
        for one, changes in cases:
            for two, more in cases:
                live = Live(program)
                live.take("y")
                before = told_of(live)
                word = one if order.index(one) <= order.index(two) else two
                self.assertEqual(outcome(live.change, other(**{**more, **changes})), ("InvalidPair", {"word": word}))
                self.assertEqual(told_of(live), before)
        live = Live(program)
        live.change(other())
        self.assertEqual(live.program, other())


class UndoTest(unittest.TestCase):
    def test_nothing_to_take_back(self):
        live = Live(Program.read(MIRROR))
        before = told_of(live)
        self.assertIs(live.undo(), False)
        self.assertEqual(told_of(live), before)

    def test_all_deeds_one_by_one(self):
        chance = Chance(132)
        for program in some_programs(133, 40):
            live = Live(program)
            states = [told_of(live)]
            for _ in range(40):
                kind = chance.below(6)
                if kind == 0:
                    live.change([program, turned(program)][chance.below(2)])
                elif kind == 1:
                    live.several("".join(chance.one_of(program.letters) for _ in range(chance.below(4))))
                elif kind == 2:
                    self.assertIs(live.undo(), len(states) > 1)
                    states = states[:-1] or states
                    self.assertEqual(told_of(live), states[-1])
                    continue
                else:
                    live.take(chance.one_of(program.letters))
                states.append(told_of(live))
                self.assertEqual(len(live), len(states) - 1)
            for state in states[:-1][::-1]:
                self.assertIs(live.undo(), True)
                self.assertEqual(told_of(live), state)
            self.assertIs(live.undo(), False)


class Stopped(Exception):
    pass


class WithinTest(unittest.TestCase):
    def setUp(self):
        self.program = Program.read(TWINS)
        self.live = Live(self.program)
        self.live.several("xy")
        self.live.take("x")
        self.before = told_of(self.live)

    def check(self):
        """Whether all is as it was, with what could be taken back."""
        self.assertEqual(told_of(self.live), self.before)
        self.assertIs(self.live.program, self.program)
        self.assertIs(self.live.undo(), True)
        self.assertEqual((self.live.heard, len(self.live)), ("xy", 1))
        self.assertIs(self.live.undo(), True)
        self.assertIs(self.live.undo(), False)
        self.assertEqual(told_of(self.live), told_of(Live(self.program)))

    def test_deeds_that_go_well(self):
        def work(live):
            self.assertIs(live, self.live)
            live.take("y")
            live.change(Program.read(OTHER))
            live.several("yyx")
            return live.heard, len(live)
        self.assertEqual(self.live.within(work), ("xyxyyyx", 6 - 1))
        self.check()

    def test_by_name(self):
        self.assertEqual(self.live.within(work=lambda live: live.take("y")), write(self.program, "xyxy"))
        self.check()

    def test_no_deeds(self):
        self.assertIsNone(self.live.within(lambda live: None))
        self.check()

    def test_deeds_that_are_refused(self):
        with self.assertRaises(Refused) as caught:
            self.live.within(lambda live: (live.take("y"), live.several("xz")))
        self.assertEqual(caught.exception.at, 1)
        self.check()

    def test_refused_letters_and_programs(self):
        with self.assertRaises(InvalidInput) as caught:
            self.live.within(lambda live: (live.take("y"), live.take("z")))
        self.assertEqual(caught.exception.at, 4)
        with self.assertRaises(InvalidPair):
            self.live.within(lambda live: (live.undo(), live.change(Program.read(MIRROR))))
        self.check()

    def test_any_error_goes_on(self):
        def work(live):
            live.take("y")
            live.undo()
            live.undo()
            raise Stopped
        with self.assertRaises(Stopped):
            self.live.within(work)
        self.check()

    def test_deeds_taken_back_within(self):
        def work(live):
            found = []
            live.take("y")
            while live.undo():
                found.append(live.heard)
            live.take("y")
            return found
        self.assertEqual(self.live.within(work), ["xyx", "xy", ""])
        self.check()

    def test_one_within_another(self):
        def inner(live):
            live.take("y")
            return live.heard

        def outer(live):
            live.take("x")
            first = live.within(inner)
            with self.assertRaises(Stopped):
                live.within(failing)
            return first, live.heard, len(live)

        def failing(live):
            live.several("yy")
            raise Stopped
        self.assertEqual(self.live.within(outer), ("xyxxy", "xyxx", 3))
        self.check()

    def test_an_error_that_is_caught_inside(self):
        def work(live):
            try:
                live.take("z")
            except InvalidInput as error:
                return error.at
        self.assertEqual(self.live.within(work), 3)
        self.check()


class WrongArgumentsTest(unittest.TestCase):
    def test_letters(self):
        for many in (0, 1, 5):
            live = Live(Program.read(TWINS))
            live.several("x" * many)
            before = told_of(live)
            for value in any_values() + ["xy", "", "X", ["x"], ("x",)]:
                if type(value) is str and value in ("x", "y"):
                    continue
                self.assertEqual(outcome(live.take, value), ("InvalidInput", {"at": many}), value)
                self.assertEqual(told_of(live), before)

    def test_several(self):
        live = Live(Program.read(TWINS))
        live.take("x")
        before = told_of(live)
        for value in any_values() + ["xyz", "xyxyZx", "zxy", "x y", ["x"], ("x", "y")]:
            if type(value) is not str:
                self.assertEqual(outcome(live.several, value), ("Refused", {"at": 0}), value)
            elif set(value) <= {"x", "y"}:
                self.assertEqual(outcome(live.several, value)[0], "returns")
                live.undo()
            else:
                at = next(at for at, sign in enumerate(value) if sign not in "xy")
                self.assertEqual(outcome(live.several, value), ("Refused", {"at": at}), value)
            self.assertEqual(told_of(live), before)


if __name__ == "__main__":
    unittest.main()
