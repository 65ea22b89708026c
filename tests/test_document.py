"""The examples of the document, and what [1] to [4] promise over the whole program."""

import doctest
import unittest

from growntexts.alike import alike, parting
from growntexts.desk import Desk
from growntexts.equations import always_same, around, first_unlike, leads, same_rows
from growntexts.errors import GrowError, InvalidInput, InvalidPair, InvalidRow, InvalidText, NoMode, Refused
from growntexts.filling import filled, fillings
from growntexts.growth import greatest, longest, shortest, slope
from growntexts.letters import idle, idle_break, swap_break, swapping
from growntexts.live import Live
from growntexts.papers import figures, paper, paper_holds
from growntexts.programs import Program
from growntexts.reaching import first_input, reaches
from growntexts.relations import breaking, counts, holds, relations
from growntexts.settings import Setting
from growntexts.shapes import Shape, within
from growntexts.shaping import behind, joined, recoded, respelt, skipping, turned
from growntexts.writing import row_text, stand, write
from tests.samples import LONG, MIRROR, OTHER, TWINS, any_values, outcome
from tests.twins import inputs, some_programs, twins_of

EXAMPLES = """
>>> from growntexts.alike import alike, parting
>>> from growntexts.programs import Program
>>> from growntexts.writing import write
>>> head = "program signs ab letters xy"
>>> mirror = Program.read(head + "\\nbegin 0 -\\nway 0 x 0 a.0.\\nway 0 y 0 .0.b\\nend 0 0 ~0")
>>> twins = Program.read(head + "\\nbegin 0 - -\\nway 0 x 0 a.0. .1.a\\nway 0 y 0 .0.b b.1.\\nend 0 0 1")
>>> other = Program.read(str(twins).replace("b.1.", ".1.b"))
>>> write(mirror, "xy"), write(other, "xy"), alike(mirror, twins), parting(mirror, other)
('abba', 'abab', True, 'xy')

>>> from growntexts.writing import row_text, stand
>>> stand(twins, "xyx"), row_text([("box", 1), ("told", "a"), ("turned", 0)], ("ab", "ba")), write(twins, "")
((0, ('aab', 'baa')), 'baaba', '')

>>> from growntexts.shapes import Shape, within
>>> from growntexts.shaping import joined, recoded, turned
>>> alike(mirror, turned(mirror)), alike(recoded(mirror, "yx"), mirror), write(joined(mirror, other), "xy")
(True, False, 'abbaabab')
>>> some = Shape("xy", [(0, 1), (None, 1)], [0, 1])
>>> some.lets("xxy"), some.lets("yx"), parting(within(mirror, some), within(other, some))
(True, False, 'xy')

>>> from growntexts.papers import figures
>>> figures(mirror, mirror, "x")
(1, 1, 1, 3, 1, 1, 3, 3, 3, 9, 3, 3, 9)

>>> from growntexts.papers import paper, paper_holds
>>> paper_holds(mirror, twins, paper(mirror, twins)), paper(mirror, other), paper_holds(mirror, mirror, ())
(True, None, False)

>>> from growntexts.equations import always_same, around, first_unlike, same_rows
>>> (always_same(twins, 0, [("box", 1)], [("turned", 0)]),
...  [(box, str(setting)) for box, setting in around(twins, 0)], len(same_rows(twins, 0)))
(True, [(0, '.~1.'), (1, '.~0.')], 6)
>>> first_unlike(twins, 0, [("box", 0), ("box", 1)], [("box", 1), ("box", 0)])
'xy'

>>> from growntexts.relations import breaking, counts, relations
>>> relations(twins, 0), counts(twins, "xyx"), breaking(twins, 0, (0, 1, -1, 0, 0))
(((0, 1, 0, -1, 0), (0, 0, 1, 0, -1)), (1, 2, 1, 2, 1), 'x')

>>> from growntexts.letters import idle, swap_break, swapping
>>> idle(mirror), swapping(mirror), swapping(turned(mirror)), swap_break(mirror, "x", "x")
((), (('x', 'y'),), (('x', 'y'),), None)

>>> from growntexts.growth import greatest, longest, slope
>>> from growntexts.reaching import first_input, reaches
>>> (longest(mirror, 7), slope(mirror), greatest(mirror), first_input(mirror, "abba"), reaches(mirror, "abab"),
...  first_input(other, "abab"))
(14, (2, 1), None, 'xy', False, 'xy')

>>> from growntexts.filling import filled, fillings
>>> fillings(other, [(0, "y", 1, "tail"), (0, "y", 1, "head")], [("xy", "abba"), ("yx", "abba")], 1)
(('', 'b'),)

>>> from growntexts.desk import Desk
>>> desk = Desk()
>>> (desk.say("keep m " + str(mirror).replace("\\n", " ; ")), desk.say("keep o " + str(other).replace("\\n", " ; ")),
...  desk.say("alike m o"), desk.say("first m abba"), desk.say("write m -"))
('1', '1', 'xy', 'xy', '-')
>>> desk.say("read o"), desk.say("on xy"), desk.say("boxes"), desk.say("undo"), desk.say("boxes")
('-', 'abab', '0 ab ab', 'undone', '0 - -')
"""


class ExamplesTest(unittest.TestCase):
    def test_examples(self):
        test = doctest.DocTestParser().get_doctest(EXAMPLES, {}, "document", None, None)
        result = doctest.DocTestRunner(verbose=False).run(test)
        self.assertEqual(result.failed, 0)
        self.assertGreater(result.attempted, 25)


def answers_of(program, other):
    """What all functions tell of two programs with the same letters."""
    one, two = [("box", 0)], [("turned", 0), ("told", program.signs[0])]
    letter, text = program.letters[0], program.letters * 2
    word = program.signs[0]
    found = [alike(program, other), parting(program, other), paper(program, other), figures(program, other, text)]
    found += [stand(program, text), write(program, text), row_text(two, stand(program, text)[1])]
    found += [str(made) for made in (turned(program), skipping(program, letter), recoded(program, program.letters[::-1]),
                                     respelt(program, program.signs[::-1]), behind(program, text), joined(program, other))]
    shape = Shape(program.letters, [[0] * len(program.letters), [None] * len(program.letters)], [0])
    found += [str(within(program, shape)), shape.lets(text)]
    for mode in range(program.modes):
        found += [leads(program, mode), always_same(program, mode, one, two), first_unlike(program, mode, one, two)]
        found += [same_rows(program, mode), [(box, str(setting)) for box, setting in around(program, mode)]]
        relation = (1,) + (0,) * (program.boxes * len(program.signs))
        found += [relations(program, mode), holds(program, mode, relation), breaking(program, mode, relation)]
    found += [counts(program, text), idle(program), swapping(program), idle_break(program, letter)]
    found += [swap_break(program, letter, program.letters[-1]), longest(program, 9), shortest(program, 9), greatest(program)]
    found += [slope(program), reaches(program, word), first_input(program, word)]
    found += [fillings(program, [], [(text, write(program, text))], 1), str(filled(program, [], []))]
    live = Live(program)
    found += [live.take(letter), live.several(text), live.heard, live.spot, live.texts, live.shown, len(live)]
    desk = Desk()
    found += [desk.say("keep p " + str(program).replace("\n", " ; ")), desk.say("read p"), desk.say("on " + text), desk.say("boxes")]
    return found


class WholeProgramTest(unittest.TestCase):
    def pairs(self, seed, many):
        programs = list(some_programs(seed, many))
        for letters in ("x", "xy", "yx", "zxy"):
            fitting = [program for program in programs if program.letters == letters]
            for program, other in zip(fitting, fitting[1:]):
                if len(set(program.signs + other.signs)) <= 3:
                    yield program, other

    def test_the_same_call_returns_an_equal_result(self):
        pairs = list(self.pairs(151, 24))
        texts = [(str(program), str(other)) for program, other in pairs]
        first = [answers_of(program, other) for program, other in pairs]
        self.assertEqual([answers_of(program, other) for program, other in pairs[::-1]][::-1], first)
        # Of equal programs, too, and nothing is changed.
        self.assertEqual([answers_of(Program.read(one), Program.read(other)) for one, other in texts], first)
        self.assertEqual([(str(program), str(other)) for program, other in pairs], texts)

    def test_alike_programs_have_the_same_answers(self):
        for program in some_programs(152, 10):
            for twin in list(twins_of(program))[-3:]:
                for many in (0, 3, 8):
                    self.assertEqual((longest(program, many), shortest(program, many)), (longest(twin, many), shortest(twin, many)))
                self.assertEqual((greatest(program), slope(program)), (greatest(twin), slope(twin)))
                self.assertEqual((idle(program), swapping(program)), (idle(twin), swapping(twin)))
                for text in inputs(program.signs, 3):
                    self.assertEqual(first_input(program, text), first_input(twin, text))

    def test_functions_against_one_another(self):
        for program in some_programs(153, 30):
            desk = Desk()
            desk.say("keep p " + str(program).replace("\n", " ; "))
            live = Live(program)
            desk.say("read p")
            for text in inputs(program.letters, 3):
                told = write(program, text)
                # What is written is reached, and by no later input first.
                if told is not None:
                    first = first_input(program, told)
                    self.assertLessEqual((len(first), [program.letters.index(letter) for letter in first]),
                                         (len(text), [program.letters.index(letter) for letter in text]))
                    self.assertTrue(shortest(program, len(text)) <= len(told) <= longest(program, len(text)))
                    self.assertIn(greatest(program), [None] + list(range(len(told), 10**4)))
                # A live reader and a desk tell what is written.
                live.within(lambda one: self.assertEqual((one.several(text), one.shown), (tuple(
                    write(program, text[:at + 1]) for at in range(len(text))), told)))
                answer = "none" if told is None else told or "-"
                self.assertEqual(desk.say("write p " + (text or "-")), answer)
                self.assertEqual(desk.say("on " + (text or "-")), answer)
                self.assertEqual(desk.say("undo"), "undone")
                # Equations and relations hold behind it.
                mode, texts = stand(program, text)
                for rows in same_rows(program, mode):
                    self.assertEqual(len({row_text(row, texts) for row in rows}), 1)
                for row in relations(program, mode):
                    self.assertEqual(sum(one * many for one, many in zip(row, counts(program, text))), 0)

    def test_letters_against_shaping(self):
        for program in some_programs(154, 30):
            for letter in program.letters:
                quiet = skipping(program, letter)
                self.assertIn(letter, idle(quiet))
                # If it never matters, nothing is otherwise without it.
                if letter in idle(program):
                    self.assertTrue(alike(program, quiet))
                    self.assertTrue(alike(program, behind(program, letter)))

    def test_what_is_returned_is_no_list(self):
        def check(value):
            self.assertNotIsInstance(value, (list, set, dict))
            if isinstance(value, tuple):
                for one in value:
                    check(one)
        for program in some_programs(155, 20):
            live = Live(program)
            check((live.several(program.letters), live.texts))
            check((idle(program), swapping(program), slope(program), counts(program, ""), stand(program, "")))
            check([idle_break(program, letter) for letter in program.letters][0])
            check((same_rows(program, 0), around(program, 0), relations(program, 0)))
            check((paper(program, program), figures(program, program, "")))
            check(fillings(program, [], [], 0))

    def test_objects_are_not_iterable(self):
        program = Program.read(MIRROR)
        objects = [program, program.way(0, "x")[1][0], Shape("x", [[0]], [0]), Live(program), Desk(), GrowError(), InvalidText(0)]
        for one in objects:
            with self.assertRaises(TypeError):
                iter(one)

    def test_equal_to_nothing_of_another_class(self):
        program = Program.read(MIRROR)
        objects = [program, Setting(0), Shape("x", [[0]], [0]), Live(program), Desk(), MIRROR, 0, None, (), [], {}]
        for at, one in enumerate(objects):
            for second, other in enumerate(objects):
                self.assertEqual(one == other, at == second)

    def test_live_readers_and_desks_as_any_values(self):
        live, desk = Live(Program.read(MIRROR)), Desk()
        program = Program.read(TWINS)
        for value in (live, desk, [live], (desk, live), [[live, None]]):
            self.assertEqual(outcome(write, program, value), ("InvalidInput", {"at": 0}))
            self.assertEqual(outcome(first_input, program, value), ("InvalidText", {"at": 0}))
            self.assertEqual(outcome(leads, program, value), ("NoMode", {"mode": value}))
            self.assertEqual(outcome(always_same, program, 0, value, [])[0], "InvalidRow")
            self.assertEqual(outcome(holds, program, 0, value)[0], "InvalidRow")
            self.assertEqual(outcome(idle_break, program, value), ("InvalidInput", {"at": 0}))
            self.assertEqual(outcome(Live(program).several, value), ("Refused", {"at": 0}))
            self.assertEqual(outcome(Live(program).take, value), ("InvalidInput", {"at": 0}))
            self.assertEqual(outcome(desk.say, value), ("InvalidCommand", {}))
            self.assertIs(paper_holds(program, program, value), False)
            self.assertEqual(outcome(Program, value, "x", (0, [""]), [[(0, [Setting(0)])]], [[]]), ("InvalidProgram", {"word": "signs"}))

    def test_errors_are_of_their_own_class(self):
        program = Program.read(LONG)
        cases = [
            (lambda: write(program, "z"), InvalidInput), (lambda: first_input(program, "z"), InvalidText),
            (lambda: leads(program, 2), NoMode), (lambda: always_same(program, 0, 3, []), InvalidRow),
            (lambda: alike(program, respelt(Program("ab", "yx", program.begin, program.ways, program.ends), "ab")), InvalidPair),
            (lambda: Live(program).several("z"), Refused), (lambda: holds(program, 1, ()), InvalidRow),
        ]
        for work, kind in cases:
            with self.assertRaises(kind) as caught:
                work()
            self.assertIs(type(caught.exception), kind)
            self.assertEqual(isinstance(caught.exception, GrowError), kind is not NoMode)

    def test_lists_may_be_changed_later(self):
        program = Program.read(OTHER)
        row, relation = [("box", 0)], [0, 1, 0, -1, 0]
        first = [first_unlike(program, 0, row, [("box", 1)]), breaking(program, 0, relation)]
        row[0] = ("box", 1)
        relation[1] = 5
        self.assertEqual([first_unlike(program, 0, [("box", 0)], [("box", 1)]), breaking(program, 0, [0, 1, 0, -1, 0])], first)

    def test_any_values_are_told_in_errors_as_they_are(self):
        program = Program.read(MIRROR)
        for value in any_values():
            for work in (leads, same_rows, around, relations):
                kind, found = outcome(work, program, value)
                if kind != "returns":
                    self.assertEqual((kind, list(found)), ("NoMode", ["mode"]))
                    self.assertIs(found["mode"], value)

    def test_texts_may_be_long(self):
        program = behind(Program.read(LONG), "xyyx" * 10)
        other = behind(Program.read(LONG), "xyyx" * 10)
        self.assertTrue(alike(program, other))
        self.assertTrue(paper_holds(program, other, paper(program, other)))
        for mode in (0, 1):
            self.assertIsNotNone(leads(program, mode))
            same_rows(program, mode)
            around(program, mode)
            for row in relations(program, mode):
                self.assertTrue(holds(program, mode, [3 * entry for entry in row]))
        self.assertEqual(write(program, "y" * 48), write(Program.read(LONG), "xyyx" * 10 + "y" * 48))


if __name__ == "__main__":
    unittest.main()
