"""[22]: told signs found back from examples, and [1] to [4] as far as they speak of that."""

import itertools
import unittest

from growntexts.alike import alike
from growntexts.filling import filled, fillings
from growntexts.programs import Program
from growntexts.settings import Setting
from growntexts.shaping import joined
from growntexts.writing import write
from tests.samples import LONG, MIRROR, OTHER, TWINS, program_of
from tests.twins import Chance, doubled, inputs, some_programs


def all_places(program):
    return [
        (mode, letter, box, side)
        for mode, row in enumerate(program.ways)
        for letter, (_, settings) in zip(program.letters, row)
        for box, setting in enumerate(settings)
        for side in ("head", "tail")
        if setting.source is not None
    ]


def filled_anew(program, places, texts):
    """The program with other texts at places, told anew by its arguments."""
    ways = [[[target, list(settings)] for target, settings in row] for row in program.ways]
    for (mode, letter, box, side), text in zip(places, texts):
        settings = ways[mode][program.letters.index(letter)][1]
        old = settings[box]
        head, tail = (text, old.tail) if side == "head" else (old.head, text)
        settings[box] = Setting(old.source, head, tail, old.is_turned)
    return Program(program.signs, program.letters, program.begin, [[tuple(way) for way in row] for row in ways], program.ends)


def all_words(signs, longest):
    return sorted("".join(row) for many in range(longest + 1) for row in itertools.product(signs, repeat=many))


def fillings_anew(program, places, examples, longest):
    """All fillings, one by one."""
    return tuple(
        texts for texts in itertools.product(all_words(program.signs, longest), repeat=len(places))
        if all(write(filled_anew(program, places, texts), text) == told for text, told in examples)
    )


class FilledTest(unittest.TestCase):
    def test_all_places(self):
        chance = Chance(121)
        for program in some_programs(122, 60):
            places = all_places(program)
            for _ in range(4):
                some = list({chance.one_of(places) for _ in range(chance.below(3))}) if places else []
                texts = [chance.word(program.signs, 3) for _ in some]
                made = filled(program, some, texts)
                self.assertEqual(made, filled_anew(program, some, texts))
                self.assertEqual(filled(program, tuple(some), tuple(texts)), made)
            own = [getattr(program.way(mode, letter)[1][box], side) for mode, letter, box, side in places]
            self.assertEqual(filled(program, places, own), program)

    def test_by_name(self):
        other = Program.read(OTHER)
        made = filled(texts=["", "b"], places=[(0, "y", 1, "tail"), (0, "y", 1, "head")], program=other)
        self.assertEqual(made, Program.read(TWINS))
        self.assertEqual(filled(other, [], []), other)

    def test_arguments_are_not_changed(self):
        other, places, texts = Program.read(OTHER), [(0, "y", 1, "tail")], ["a"]
        made = filled(other, places, texts)
        texts[0] = "b"
        places.clear()
        self.assertEqual(made.way(0, "y")[1][1], Setting(1, "", "a"))
        self.assertEqual(str(other), OTHER)


class FillingsTest(unittest.TestCase):
    def test_the_example(self):
        other = Program.read(OTHER)
        places, examples = [(0, "y", 1, "tail"), (0, "y", 1, "head")], [("xy", "abba"), ("yx", "abba")]
        self.assertEqual(fillings(other, places, examples, 1), (("", "b"),))
        self.assertEqual(fillings(longest=1, examples=examples, places=places, program=other), (("", "b"),))
        self.assertTrue(alike(filled(other, places, ("", "b")), Program.read(MIRROR)))

    def test_all_fillings(self):
        chance = Chance(123)
        sizes = []
        for at, program in enumerate(some_programs(124, 150)):
            if at % 4 == 0:
                program = doubled(program)
            places = all_places(program)
            some = list(dict.fromkeys(chance.one_of(places) for _ in range(chance.below(3)))) if places else []
            longest = chance.below(3) if len(program.signs) < 3 or len(some) < 2 else 1
            right = filled(program, some, [chance.word(program.signs, longest) for _ in some])
            examples = []
            for _ in range(chance.below(5)):
                text = "".join(chance.one_of(program.letters) for _ in range(chance.below(7)))
                examples.append((text, write(right, text) if chance.below(6) else chance.one_of([None, "", "a", write(program, text)])))
            found = fillings(program, some, examples, longest)
            self.assertEqual(found, fillings_anew(program, some, examples, longest), (str(program), some, examples))
            self.assertEqual(found, tuple(sorted(found)))
            self.assertEqual({type(texts) for texts in found} | {type(found), tuple}, {tuple})
            sizes.append(len(found))
        self.assertGreater(sizes.count(0), 10)
        self.assertGreater(sizes.count(1), 10)
        self.assertGreater(max(sizes), 20)

    def test_no_places(self):
        mirror = Program.read(MIRROR)
        for longest in (0, 1, 2):
            self.assertEqual(fillings(mirror, [], [], longest), ((),))
            self.assertEqual(fillings(mirror, (), (("xy", "abba"), ("", "")), longest), ((),))
            self.assertEqual(fillings(mirror, [], [("xy", "abba"), ("", "a")], longest), ())
            self.assertEqual(fillings(mirror, [], [("xy", None)], longest), ())

    def test_no_examples(self):
        mirror = Program.read(MIRROR)
        self.assertEqual(fillings(mirror, [(0, "x", 0, "head")], [], 0), (("",),))
        self.assertEqual(fillings(mirror, [(0, "x", 0, "head")], (), 2),
                         (("",), ("a",), ("aa",), ("ab",), ("b",), ("ba",), ("bb",)))
        found = fillings(mirror, [(0, "x", 0, "head"), (0, "x", 0, "tail")], [], 1)
        self.assertEqual(found, tuple(itertools.product(("", "a", "b"), repeat=2)))

    def test_signs_in_any_order(self):
        program = Program("cba", "x", (0, [""]), [[(0, [Setting(0)])]], [[("box", 0)]])
        self.assertEqual(fillings(program, [(0, "x", 0, "tail")], [], 1), (("",), ("a",), ("b",), ("c",)))
        self.assertEqual(len(fillings(program, [(0, "x", 0, "tail"), (0, "x", 0, "head")], [], 2)), 169)

    def test_refused_inputs(self):
        program = program_of("program signs a letters x", "begin 0 -", "way 0 x 1 .0.", "way 1 x 0 .0.", "end 0 0", "end 1 none")
        place = [(0, "x", 0, "head")]
        self.assertEqual(fillings(program, place, [("x", None)], 1), (("",), ("a",)))
        self.assertEqual(fillings(program, place, [("x", "")], 1), ())
        self.assertEqual(fillings(program, place, [("xx", None)], 1), ())
        self.assertEqual(fillings(program, place, [("x", None), ("xx", "a")], 1), (("a",),))

    def test_boxes_turned_about(self):
        # What stood at the head ahead of the last letter stands at the end, turned about.
        program = program_of("program signs ab letters x", "begin 0 -", "way 0 x 0 .~0.", "end 0 0")
        place = [(0, "x", 0, "head")]
        self.assertEqual(fillings(program, place, [("x", "ab"), ("xx", "abba")], 2), (("ab",),))
        self.assertEqual(fillings(program, place, [("xxx", "ababba")], 2), (("ab",),))
        self.assertEqual(fillings(program, place, [("xxx", "ababab")], 2), ())
        two = [(0, "x", 0, "tail"), (0, "x", 0, "head")]
        self.assertEqual(fillings(program, two, [("xx", "baab")], 2), (("", "ba"), ("ab", "")))
        # Parts that are turned about.
        program = program_of("program signs ab letters x", "begin 0 a", "way 0 x 0 .0.", "end 0 ~0 =b 0")
        self.assertEqual(fillings(program, place, [("x", "abababa"), ("", "aba")], 2), (("ab",),))
        self.assertEqual(fillings(program, place, [("x", "ababba"), ("", "aba")], 2), ())

    def test_places_that_are_never_passed(self):
        program = Program.read(LONG)
        place = [(0, "x", 0, "head")]
        self.assertEqual(fillings(program, place, [("", write(program, ""))], 1), (("",), ("a",), ("b",)))
        self.assertEqual(fillings(program, place, [("", "a")], 1), ())

    def test_long_inputs(self):
        other = Program.read(OTHER)
        places = [(0, "y", 1, "tail"), (0, "y", 1, "head")]
        text = "xyyx" * 10
        self.assertEqual(fillings(other, places, [(text, write(Program.read(TWINS), text))], 2), (("", "b"),))
        self.assertEqual(fillings(other, places, [(text, write(other, text))], 2), (("b", ""),))
        wide = joined(other, Program.read(MIRROR))
        self.assertEqual(fillings(wide, [(0, "y", 2, "tail")], [("y" * 40, write(wide, "y" * 40))], 2), (("b",),))

    def test_texts_of_other_signs(self):
        self.assertEqual(fillings(Program.read(MIRROR), [(0, "x", 0, "head")], [("x", "c")], 2), ())

    def test_arguments_are_not_changed(self):
        other = Program.read(OTHER)
        places, examples = [(0, "y", 1, "tail"), (0, "y", 1, "head")], [("xy", "abba"), ("yx", "abba")]
        found = fillings(other, places, examples, 1)
        self.assertEqual((places, examples), ([(0, "y", 1, "tail"), (0, "y", 1, "head")], [("xy", "abba"), ("yx", "abba")]))
        self.assertEqual(fillings(other, places, examples, 1), found)
        self.assertEqual(str(other), OTHER)

    def test_what_is_filled_writes_the_examples(self):
        mirror = Program.read(MIRROR)
        for places in itertools.combinations(all_places(mirror), 2):
            examples = [(text, write(mirror, text)) for text in list(inputs("xy", 2))[1:5]]
            found = fillings(mirror, places, examples, 2)
            self.assertIn(tuple(getattr(mirror.way(0, letter)[1][0], side) for _, letter, _, side in places), found)
            for texts in found:
                self.assertEqual([(text, write(filled(mirror, places, texts), text)) for text, _ in examples], examples)


if __name__ == "__main__":
    unittest.main()
