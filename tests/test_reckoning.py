"""[12] and [13]: what the answers are reckoned with: digits, figures, spans, sums, readers and searches."""

import unittest
from fractions import Fraction

from growntexts.alike import written_needs
from growntexts.digits import digits_of, moved_rule, row_value, setting_rules, text_numbers, texts_numbers
from growntexts.needs import elder_figures, elder_places, needs, row_figures
from growntexts.pairs import numbered
from growntexts.programs import Program
from growntexts.readers import Readers
from growntexts.search import Search, planned_row
from growntexts.settings import Setting
from growntexts.spans import Span, least_place, lessened
from growntexts.sums import sums_of
from growntexts.writing import row_text, stand
from tests.samples import LONG, MIRROR, OTHER, TWINS
from tests.twins import Chance, inputs, some_programs, some_row, some_setting

DIGITS = {"a": 1, "b": 2}


def follow(rules, numbers):
    """The numbers that rules make."""
    return tuple(
        told + more * numbers[weight] + times * numbers[number]
        for told, more, weight, times, number in rules
    )


def rank_of(rows):
    """How many of the rows are no sums of multiples of those ahead of them."""
    kept = []
    for row in rows:
        row = [Fraction(entry) for entry in row]
        for place, other in kept:
            row = [entry - row[place] * more for entry, more in zip(row, other)]
        places = [at for at, entry in enumerate(row) if entry != 0]
        if places:
            kept.append((places[0], [entry / row[places[0]] for entry in row]))
    return len(kept)


class DigitsTest(unittest.TestCase):
    def test_digits(self):
        self.assertEqual(digits_of("cab" + "bd"), {"a": 1, "b": 2, "c": 3, "d": 4})
        self.assertEqual(digits_of("z"), {"z": 1})

    def test_numbers_of_texts(self):
        self.assertEqual(text_numbers("", DIGITS), (0, 0, 1))
        self.assertEqual(text_numbers("ab", DIGITS), (5, 7, 9))
        self.assertEqual(text_numbers("aab", DIGITS), (14, 22, 27))

    def test_unlike_texts_have_unlike_values(self):
        texts = list(inputs("ab", 6))
        self.assertEqual(len({text_numbers(text, DIGITS)[0] for text in texts}), len(texts))

    def test_several_texts(self):
        self.assertEqual(texts_numbers(["ab", "", "b"], DIGITS), [5, 7, 9, 0, 0, 1, 2, 2, 3])

    def test_settings(self):
        chance = Chance(61)
        for _ in range(300):
            texts = [chance.word("ab", 5) for _ in range(2)]
            numbers = texts_numbers(texts, DIGITS)
            setting = some_setting(chance, "ab", 2)
            text = setting.over("" if setting.source is None else texts[setting.source])
            self.assertEqual(follow(setting_rules(setting, DIGITS), numbers), text_numbers(text, DIGITS))
            moved = [moved_rule(rule, 2) for rule in setting_rules(setting, DIGITS)]
            self.assertEqual(follow(moved, [-7, 11] + numbers), text_numbers(text, DIGITS))

    def test_rows(self):
        chance = Chance(66)
        for _ in range(300):
            texts = [chance.word("ab", 5) for _ in range(2)]
            row = some_row(chance, "ab", 2) or []
            value = row_value(row, texts_numbers(texts, DIGITS), DIGITS)
            self.assertEqual(value, text_numbers(row_text(row, texts), DIGITS)[0])


class NeedsTest(unittest.TestCase):
    def test_rows(self):
        # The places are value, back value and weight of box 0, and then of box 1.
        self.assertEqual(row_figures([]), [])
        self.assertEqual(row_figures([("told", "a")]), [()])
        self.assertEqual(row_figures([("box", 1)]), [(3,)])
        self.assertEqual(row_figures([("turned", 0), ("told", "a"), ("box", 1)]), [(3,), (5,), (1, 5)])
        self.assertEqual(row_figures([("box", 0), ("box", 1), ("box", 0)]), [(0,), (2, 3), (0, 2, 5)])

    def test_elder_places(self):
        def places(setting):
            return [elder_places(rule) for rule in setting_rules(setting, DIGITS)]
        self.assertEqual(places(Setting(1, "a", "b")), [[(), (5,), (3,)], [(), (5,), (4,)], [(5,)]])
        self.assertEqual(places(Setting(1, "", "", True)), [[(4,)], [(3,)], [(5,)]])
        self.assertEqual(places(Setting(0, "a", "", True)), [[(2,), (1,)], [(), (0,)], [(2,)]])
        self.assertEqual(places(Setting(None, "a")), [[()], [()], [()]])
        self.assertEqual(places(Setting(None)), [[], [], [()]])

    def test_elder_figures(self):
        elders = [[(), (5,), (3,)], [(4,)], [(5,)], [], [()], [()]]
        self.assertEqual(elder_figures((0,), elders), [(), (5,), (3,)])
        self.assertEqual(elder_figures((0, 2), elders), [(5,), (5, 5), (3, 5)])
        self.assertEqual(elder_figures((1, 2, 2), elders), [(4, 5, 5)])
        self.assertEqual(elder_figures((2, 3), elders), [])
        self.assertEqual(elder_figures((0, 5), elders), [(), (5,), (3,)])

    def test_programs(self):
        def needed(text):
            return written_needs(Readers((Program.read(text),)))
        self.assertEqual(needed(MIRROR), [[[(0, 2), (1,), (2,), (2, 2)]]])
        self.assertEqual(needed(MIRROR.replace("end 0 0 ~0", "end 0 none")), [[[]]])
        self.assertEqual(needed(MIRROR.replace("end 0 0 ~0", "end 0 =ab")), [[[]]])

    def test_rows_in_modes(self):
        ways = Readers((Program.read(LONG),)).ways[0]
        self.assertEqual(needs(ways, []), [[], []])
        self.assertEqual(needs(ways, [(0, [("told", "ab")])]), [[], []])
        found = needs(ways, [(0, [("box", 1)])])
        self.assertIn((3,), found[0])
        self.assertIn((0,), found[1])

    def test_needed_figures_go_on(self):
        # Each needed figure behind a letter is a fixed sum of needed ones ahead of it, and 1.
        for program in some_programs(67, 40):
            readers = Readers((program,))
            search = Search(readers, written_needs(readers))
            pairs = {}
            for text in inputs(program.letters, 3):
                state = readers.led_on(readers.first(), text)
                row = planned_row(search.plan(state[0]), state[1])
                for letter in program.letters:
                    led = readers.led(state, letter)
                    behind = planned_row(search.plan(led[0]), led[1])
                    pairs.setdefault((state[0], letter), []).append((row, behind))
            for rows in pairs.values():
                self.assertEqual(rank_of([row for row, _ in rows]), rank_of([row + behind for row, behind in rows]))


class SpanTest(unittest.TestCase):
    def some_rows(self, chance):
        """Rows, many of which are sums of others."""
        width = 1 + chance.below(6)
        rows = []
        for _ in range(1 + chance.below(9)):
            if rows and chance.below(2) == 0:
                times = [chance.below(7) - 3 for _ in rows]
                rows.append([sum(time * row[at] for time, row in zip(times, rows)) for at in range(width)])
            else:
                rows.append([chance.one_of([0, 0, 1, -1, 2, 3, -5, 10**20]) for _ in range(width)])
        return width, rows

    def test_which_rows_are_sums(self):
        chance = Chance(62)
        for _ in range(300):
            width, rows = self.some_rows(chance)
            span = Span(width)
            for at, row in enumerate(rows):
                given = list(row)
                self.assertIs(span.takes(row), rank_of(rows[:at]) < rank_of(rows[:at + 1]))
                self.assertIs(span.takes(row), False)
                self.assertEqual(row, given)

    def test_rows_with_twins(self):
        chance = Chance(63)
        for _ in range(300):
            _, rows = self.some_rows(chance)
            wide = [row + row[::-1] + row for row in rows]
            if chance.below(2) == 0:
                wide = [row + [chance.below(2)] for row in wide]
            span = Span(len(wide[0]))
            for at, row in enumerate(wide):
                self.assertIs(span.takes(row), rank_of(wide[:at]) < rank_of(wide[:at + 1]))

    def test_places_with_twins_are_looked_at_once(self):
        span = Span(5)
        self.assertTrue(span.takes([2, 2, 2, 2, 2]))
        self.assertEqual((span.places, span.twins), ([0], [(1, 0), (2, 0), (3, 0), (4, 0)]))
        self.assertTrue(span.takes([1, 3, 1, 3, 4]))
        self.assertEqual((span.places, span.twins), ([0, 1, 4], [(2, 0), (3, 1)]))
        self.assertFalse(span.takes([5, 9, 5, 9, 11]))
        self.assertTrue(span.takes([5, 9, 5, 9, 12]))
        # All rows that have twins are sums now.
        self.assertEqual(len(span.rows), len(span.places))
        self.assertFalse(span.takes([-8, 10**9, -8, 10**9, 0]))
        self.assertTrue(span.takes([5, 9, 6, 9, 12]))
        self.assertEqual(span.places, [0, 1, 4, 2])

    def test_kept_rows_have_one_spot_each(self):
        chance = Chance(64)
        for _ in range(100):
            width, rows = self.some_rows(chance)
            span = Span(width)
            for row in rows:
                span.takes(row)
            for at, row in enumerate(span.rows):
                self.assertGreater(row[span.spots[at]], 0)
                self.assertEqual([later[span.spots[at]] for later in span.rows[at + 1:]].count(0), len(span.rows) - at - 1)

    def test_least_place_and_lessened(self):
        self.assertEqual([least_place(row) for row in ([], [0, 0], [0, -3, 2, -2], [5, 0, -5])], [None, None, 2, 0])
        self.assertEqual([lessened(row) for row in ([], [0], [4, -6, 0], [3, 2])], [[], [0], [2, -3, 0], [3, 2]])


class SumsTest(unittest.TestCase):
    def test_sums(self):
        chance = Chance(68)
        for _ in range(300):
            width = 1 + chance.below(5)
            span = Span(width)
            rows = []
            while len(rows) < width:
                row = [chance.one_of([0, 0, 1, -1, 2, 3, -5, 10**20]) for _ in range(width)]
                if span.takes(row):
                    rows.append(row)
            others = [[chance.below(9) - 4 for _ in range(width)] for _ in range(chance.below(4))] + rows[:1]
            wholes = sums_of(rows, others)
            self.assertEqual(len(wholes), len(others))
            for other, whole in zip(others, wholes):
                self.assertEqual(len(whole), width + 1)
                self.assertGreater(whole[-1], 0)
                self.assertEqual(lessened(whole), whole)
                for at in range(width):
                    self.assertEqual(other[at] * whole[-1], sum(times * row[at] for times, row in zip(whole, rows)))

    def test_no_rows(self):
        self.assertEqual(sums_of([], [[], []]), [[1], [1]])
        self.assertEqual(sums_of([[3]], []), [])


class ReadersTest(unittest.TestCase):
    def test_states(self):
        programs = list(some_programs(65, 40))
        for letters in ("x", "xy", "yx", "zxy"):
            fitting = [program for program in programs if program.letters == letters]
            for p, q in zip(fitting, fitting[1:]):
                readers = Readers((p, q))
                digits = digits_of(p.signs + q.signs)
                for text in inputs(letters, 3):
                    modes, numbers = readers.led_on(readers.first(), text)
                    stands = [stand(program, text) for program in (p, q)]
                    self.assertEqual(modes, (stands[0][0], stands[1][0]))
                    self.assertEqual(list(numbers), texts_numbers(stands[0][1] + stands[1][1], digits))

    def test_what_is_written(self):
        mirror, twins, other, long = [Program.read(text) for text in (MIRROR, TWINS, OTHER, LONG)]

        def same(p, q, text):
            readers = Readers((p, q))
            return readers.writes_same(readers.led_on(readers.first(), text))
        for text in inputs("xy", 4):
            self.assertTrue(same(mirror, twins, text))
            self.assertTrue(same(long, long, text))
        self.assertFalse(same(mirror, other, "xy"))
        self.assertFalse(same(mirror, long, "y"))
        readers = Readers((mirror, long, twins))
        self.assertEqual(readers.written(readers.led_on(readers.first(), "y")), [8, None, 8])


class SearchTest(unittest.TestCase):
    def found(self, program):
        readers = Readers((program,))
        search = Search(readers, written_needs(readers))
        search.begin_at(readers.first())
        rows = []
        while (one := search.advance()) is not None:
            rows.append(one)
        return readers, search, rows

    def test_needed_inputs(self):
        for program in some_programs(69, 40):
            readers, search, rows = self.found(program)
            texts = [text for text, _ in rows]
            self.assertEqual(texts, [text for text in inputs(program.letters, len(texts[-1])) if text in texts])
            self.assertTrue(all(text[:-1] in texts for text in texts))
            for text, state in rows:
                self.assertEqual(state, readers.led_on(readers.first(), text))
            # All short inputs are sums of these, and those of one mode are no sums of each other.
            for mode in range(program.modes):
                kept = [planned_row(search.plan(state[0]), state[1]) for _, state in rows if state[0] == (mode,)]
                self.assertEqual(rank_of(kept), len(kept))
                for text in inputs(program.letters, 4):
                    state = readers.led_on(readers.first(), text)
                    if state[0] == (mode,):
                        self.assertEqual(rank_of(kept + [planned_row(search.plan(state[0]), state[1])]), len(kept))

    def test_beginning_anew(self):
        readers, search, rows = self.found(Program.read(MIRROR))
        for _, state in rows:
            search.begin_at(state)
            self.assertIsNone(search.advance())


class NumberedTest(unittest.TestCase):
    def test_numbered(self):
        states = numbered(1, lambda state: [2 * state % 7, 3 * state % 7])
        self.assertEqual(list(states.items()), [(1, 0), (2, 1), (3, 2), (4, 3), (6, 4), (5, 5)])
        self.assertEqual(numbered(None, lambda state: [state]), {None: 0})


if __name__ == "__main__":
    unittest.main()
