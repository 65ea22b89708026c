"""[12] and [13]: what the answers are reckoned with: digits, needed figures, spans and pairs."""

import itertools
import unittest
from fractions import Fraction

from growntexts.digits import digits_of, joined_numbers, row_numbers, set_numbers, text_numbers, turned_numbers
from growntexts.needs import elder_figures, figure_of, needs, row_figures
from growntexts.pairs import Pair, modes_of, numbered
from growntexts.programs import Program
from growntexts.settings import Setting
from growntexts.spans import Span
from growntexts.writing import row_text, stand
from tests.samples import LONG, MIRROR, OTHER, TWINS
from tests.twins import Chance, inputs, some_programs, some_row, some_setting

DIGITS = {"a": 1, "b": 2}


def rank_of(rows):
    """How many of the rows are no sums of multiples of those ahead of them."""
    kept = []
    for row in rows:
        row = [Fraction(entry) for entry in row]
        for place, other in kept:
            row = [entry - row[place] * more for entry, more in zip(row, other)]
        places = [at for at, entry in enumerate(row) if entry != 0]
        if places:
            kept.append((places[0], [entry / row[places[0]] for entry in row]))
    return len(kept)


class DigitsTest(unittest.TestCase):
    def test_digits(self):
        self.assertEqual(digits_of("cab" + "bd"), {"a": 1, "b": 2, "c": 3, "d": 4})
        self.assertEqual(digits_of("z"), {"z": 1})

    def test_numbers_of_texts(self):
        self.assertEqual(text_numbers("", DIGITS), (0, 0, 1))
        self.assertEqual(text_numbers("ab", DIGITS), (5, 7, 9))
        self.assertEqual(text_numbers("aab", DIGITS), (14, 22, 27))

    def test_unlike_texts_have_unlike_values(self):
        texts = list(inputs("ab", 6))
        self.assertEqual(len({text_numbers(text, DIGITS)[0] for text in texts}), len(texts))

    def test_joining_and_turning(self):
        texts = list(inputs("ab", 3))
        for one, other in itertools.product(texts, repeat=2):
            numbers = joined_numbers(text_numbers(one, DIGITS), text_numbers(other, DIGITS))
            self.assertEqual(numbers, text_numbers(one + other, DIGITS))
        for text in texts:
            self.assertEqual(turned_numbers(text_numbers(text, DIGITS)), text_numbers(text[::-1], DIGITS))

    def test_settings_and_rows(self):
        chance = Chance(61)
        for _ in range(200):
            texts = [chance.word("ab", 5) for _ in range(2)]
            boxes = [text_numbers(text, DIGITS) for text in texts]
            setting, row = some_setting(chance, "ab", 2), some_row(chance, "ab", 2) or []
            text = setting.over("" if setting.source is None else texts[setting.source])
            self.assertEqual(set_numbers(setting, boxes, DIGITS), text_numbers(text, DIGITS))
            self.assertEqual(row_numbers(row, boxes, DIGITS), text_numbers(row_text(row, texts), DIGITS))


class NeedsTest(unittest.TestCase):
    def test_figures(self):
        boxes = [(2, 3, 5), (7, 11, 13)]
        self.assertEqual(figure_of((0, 1, ()), boxes), 7)
        self.assertEqual(figure_of((1, 0, (0, 1)), boxes), 3 * 5 * 13)
        self.assertEqual(figure_of((2, 1, (1,)), boxes), 13 * 13)

    def test_rows(self):
        self.assertEqual(row_figures([("told", "a")]), [])
        self.assertEqual(row_figures([("box", 1)]), [(0, 1, ())])
        self.assertEqual(row_figures([("turned", 0), ("told", "a"), ("box", 1)]), [(0, 1, ()), (2, 1, ()), (1, 0, (1,))])

    def test_settings(self):
        settings = [Setting(1, "a", "b"), Setting(1, "", "", True), Setting(None, "a"), Setting(0, "a", "", True)]
        self.assertEqual(elder_figures((0, 0, ()), settings), [(0, 1, ()), (2, 1, ())])
        self.assertEqual(elder_figures((0, 1, (0, 3)), settings), [(1, 1, (0, 1))])
        self.assertEqual(elder_figures((1, 1, ()), settings), [(0, 1, ())])
        self.assertEqual(elder_figures((2, 0, (3,)), settings), [(2, 0, (1,))])
        self.assertEqual(elder_figures((0, 2, (3,)), settings), [(2, 0, ())])
        self.assertEqual(elder_figures((0, 2, ()), settings), [])
        self.assertEqual(elder_figures((0, 3, ()), settings), [(1, 0, ()), (2, 0, ())])
        self.assertEqual(elder_figures((1, 3, (0,)), settings), [(0, 0, (1,)), (2, 1, ())])

    def test_programs(self):
        needed = [(0, 0, (0,)), (1, 0, ()), (2, 0, ()), (2, 0, (0,))]
        self.assertEqual(needs(Program.read(MIRROR)), [needed])
        self.assertEqual(needs(Program.read(MIRROR.replace("end 0 0 ~0", "end 0 none"))), [[]])
        self.assertEqual(needs(Program.read(MIRROR.replace("end 0 0 ~0", "end 0 =ab"))), [[]])


class SpanTest(unittest.TestCase):
    def some_rows(self, chance):
        """Rows, many of which are sums of others."""
        width = 1 + chance.below(6)
        rows = []
        for _ in range(1 + chance.below(9)):
            if rows and chance.below(2) == 0:
                times = [chance.below(7) - 3 for _ in rows]
                rows.append([sum(time * row[at] for time, row in zip(times, rows)) for at in range(width)])
            else:
                rows.append([chance.one_of([0, 0, 1, -1, 2, 3, -5, 10**20]) for _ in range(width)])
        return width, rows

    def test_which_rows_are_sums(self):
        chance = Chance(62)
        for _ in range(300):
            width, rows = self.some_rows(chance)
            span = Span(width)
            for at, row in enumerate(rows):
                rest = span.rest(row)
                self.assertEqual(span.is_nothing(rest), rank_of(rows[:at]) == rank_of(rows[:at + 1]))
                if not span.is_nothing(rest):
                    span.put(rest)
                self.assertTrue(span.is_nothing(span.rest(row)))

    def test_what_stands_behind_the_width_goes_along(self):
        chance = Chance(63)
        for _ in range(300):
            width, rows = self.some_rows(chance)
            span = Span(width)
            for at, row in enumerate(rows):
                rest = span.rest(row + [1 if k == at else 0 for k in range(len(rows))])
                for k in range(width):
                    self.assertEqual(sum(times * other[k] for times, other in zip(rest[width:], rows)), rest[k])
                self.assertGreater(rest[width + at], 0)
                if not span.is_nothing(rest):
                    span.put(rest)

    def test_kept_rows_have_one_place_each(self):
        chance = Chance(64)
        for _ in range(100):
            width, rows = self.some_rows(chance)
            span = Span(width)
            for row in rows:
                rest = span.rest(row)
                if not span.is_nothing(rest):
                    span.put(rest)
            for at, row in enumerate(span.rows):
                self.assertGreater(row[span.places[at]], 0)
                self.assertEqual([row[place] for place in span.places].count(0), len(span.rows) - 1)


class PairTest(unittest.TestCase):
    def test_stands(self):
        programs = list(some_programs(65, 40))
        for letters in ("x", "xy", "yx", "zxy"):
            fitting = [program for program in programs if program.letters == letters]
            for p, q in zip(fitting, fitting[1:]):
                pair = Pair(p, q)
                digits = digits_of(p.signs + q.signs)
                for text in inputs(letters, 3):
                    stands = pair.stands_behind(text)
                    for program, (mode, boxes) in zip((p, q), stands):
                        self.assertEqual(mode, stand(program, text)[0])
                        self.assertEqual(boxes, tuple(text_numbers(one, digits) for one in stand(program, text)[1]))
                    self.assertEqual(modes_of(stands), (stand(p, text)[0], stand(q, text)[0]))

    def test_writing_the_same(self):
        mirror, twins, other, long = [Program.read(text) for text in (MIRROR, TWINS, OTHER, LONG)]
        for text in inputs("xy", 4):
            pair = Pair(mirror, twins)
            self.assertTrue(pair.writes_same(pair.stands_behind(text)))
            pair = Pair(long, long)
            self.assertTrue(pair.writes_same(pair.stands_behind(text)))
        pair = Pair(mirror, other)
        self.assertFalse(pair.writes_same(pair.stands_behind("xy")))
        pair = Pair(mirror, long)
        self.assertFalse(pair.writes_same(pair.stands_behind("y")))

    def test_numbered(self):
        states = numbered(1, lambda state: [2 * state % 7, 3 * state % 7])
        self.assertEqual(list(states.items()), [(1, 0), (2, 1), (3, 2), (4, 3), (6, 4), (5, 5)])
        self.assertEqual(numbered(None, lambda state: [state]), {None: 0})


if __name__ == "__main__":
    unittest.main()
