"""[5]: settings, and [1] to [3] as far as they speak of them."""

import itertools
import unittest

from growntexts.errors import InvalidText
from growntexts.programs import Program
from growntexts.settings import Setting
from tests.samples import MIRROR, any_values, outcome

PARAMETERS = ("source", "head", "tail", "is_turned")


def is_lower_word(value):
    return type(value) is str and all(sign in "abcdefghijklmnopqrstuvwxyz" for sign in value)


def wrong_parameter(source, head, tail, is_turned):
    """The first wrong one, told by the words of the document."""
    is_wrong = {
        "source": not (source is None or type(source) is int and source >= 0),
        "head": not is_lower_word(head),
        "tail": not is_lower_word(tail) or source is None and tail != "",
        "is_turned": type(is_turned) is not bool or source is None and is_turned,
    }
    return next((name for name in PARAMETERS if is_wrong[name]), None)


def many_settings():
    words = ("", "a", "b", "ab", "zz")
    with_source = itertools.product((0, 1, 9, 10, 99), words, words, (False, True))
    return [Setting(*row) for row in with_source] + [Setting(None, head) for head in words]


class ArgumentsTest(unittest.TestCase):
    def test_attributes_are_the_arguments(self):
        setting = Setting(7, "ab", "c", True)
        self.assertEqual([getattr(setting, name) for name in PARAMETERS], [7, "ab", "c", True])

    def test_defaults(self):
        setting = Setting(0)
        self.assertEqual([getattr(setting, name) for name in PARAMETERS], [0, "", "", False])
        setting = Setting(None)
        self.assertEqual([getattr(setting, name) for name in PARAMETERS], [None, "", "", False])

    def test_by_name(self):
        self.assertEqual(Setting(is_turned=True, tail="b", head="a", source=3), Setting(3, "a", "b", True))

    def test_every_letter_may_stand(self):
        letters = "abcdefghijklmnopqrstuvwxyz"
        self.assertEqual(Setting(0, letters, letters).over(""), letters + letters)

    def test_any_number_may_be_a_source(self):
        for source in (0, 100, 10**40):
            self.assertEqual(Setting(source).source, source)

    def test_a_wrong_argument(self):
        wrong = {
            "source": [-1, True, False, "0", "", [], (0,), Setting(0), InvalidText(0)],
            "head": [None, 0, True, "A", "a ", "a.b", "\u00e9", "\uff41", "-", "`", "{", [], ["a"], ("a",), Setting(0)],
            "tail": [None, 0, False, "A", "a\n", "a1", "\u00df", "\u0430", "~", "`", "{", (), ["a"], Setting(0)],
            "is_turned": [None, 0, 1, "", "True", [], (True,), Setting(0)],
        }
        for name, values in wrong.items():
            for value in values:
                arguments = {"source": 0, name: value}
                self.assertEqual(outcome(Setting, **arguments), ("InvalidSetting", {"word": name}), (name, value))

    def test_without_a_source(self):
        self.assertEqual(outcome(Setting, None, "a", "b"), ("InvalidSetting", {"word": "tail"}))
        self.assertEqual(outcome(Setting, None, "a", "", True), ("InvalidSetting", {"word": "is_turned"}))
        self.assertEqual(outcome(Setting, None, "a", "b", True), ("InvalidSetting", {"word": "tail"}))
        self.assertEqual(outcome(Setting, None, "A", "b", True), ("InvalidSetting", {"word": "head"}))
        self.assertEqual(outcome(Setting, None, "a", "", 0), ("InvalidSetting", {"word": "is_turned"}))

    def test_any_values_two_at_once(self):
        values = any_values()
        for base in ({"source": 1}, {"source": None}):
            for one, other in itertools.combinations(PARAMETERS, 2):
                for first, second in itertools.product(values, values):
                    row = {"head": "", "tail": "", "is_turned": False, **base, one: first, other: second}
                    word = wrong_parameter(**row)
                    found = outcome(Setting, **row)
                    if word is None:
                        self.assertEqual(vars(found[1]), row)
                    else:
                        self.assertEqual(found, ("InvalidSetting", {"word": word}), row)

    def test_all_arguments_wrong(self):
        self.assertEqual(outcome(Setting, -1, 0, 0, 0)[1], {"word": "source"})
        self.assertEqual(outcome(Setting, 0, 0, 0, 0)[1], {"word": "head"})
        self.assertEqual(outcome(Setting, 0, "", 0, 0)[1], {"word": "tail"})


class OverTest(unittest.TestCase):
    def test_head_source_and_tail(self):
        self.assertEqual(Setting(0, "a", "bb").over("cd"), "acdbb")
        self.assertEqual(Setting(5, "ab").over("cd"), "abcd")
        self.assertEqual(Setting(0, "", "ab").over("cd"), "cdab")
        self.assertEqual(Setting(0).over("cd"), "cd")

    def test_only_the_source_is_turned(self):
        self.assertEqual(Setting(0, "ab", "cd", True).over("xyz"), "abzyxcd")

    def test_empty_texts(self):
        self.assertEqual(Setting(0).over(""), "")
        self.assertEqual(Setting(0, "", "", True).over(""), "")
        self.assertEqual(Setting(0, "a", "b", True).over(""), "ab")

    def test_without_a_source_the_text_does_not_matter(self):
        for text in ("", "a", "zzz"):
            self.assertEqual(Setting(None, "ab").over(text), "ab")
            self.assertEqual(Setting(None).over(text=text), "")


class TextTest(unittest.TestCase):
    def test_texts(self):
        self.assertEqual(str(Setting(0, "a", "bb")), "a.0.bb")
        self.assertEqual(str(Setting(0, "a", "bb", True)), "a.~0.bb")
        self.assertEqual(str(Setting(None, "ab")), "ab.-.")
        self.assertEqual(str(Setting(12)), ".12.")
        self.assertEqual(str(Setting(None)), ".-.")

    def test_read(self):
        setting = Setting.read("a.~10.bb")
        self.assertEqual([getattr(setting, name) for name in PARAMETERS], [10, "a", "bb", True])
        setting = Setting.read(text="ab.-.")
        self.assertEqual([getattr(setting, name) for name in PARAMETERS], [None, "ab", "", False])
        setting = Setting.read(".0.")
        self.assertEqual([getattr(setting, name) for name in PARAMETERS], [0, "", "", False])

    def test_numbers_of_one_and_two_digits(self):
        for number in range(100):
            self.assertEqual(Setting.read(f".{number}.").source, number)
            self.assertEqual(Setting.read(f"a.~{number}.b"), Setting(number, "a", "b", True))

    def test_texts_are_read_back(self):
        for setting in many_settings():
            again = Setting.read(str(setting))
            self.assertEqual(vars(again), vars(setting))
            self.assertIsInstance(again, Setting)

    def test_other_strings(self):
        wrong = ["", "a", ".", "..", "...", "a.b", ".0", "0.", "0", "-", ".-", "-.", ".0..", "..0.", "a.0.b.c", ".0.b."]
        wrong += [".00.", ".01.", ".007.", ".100.", ".~100.", ".~00.", ".~.", ".~~0.", ".0~.", ".+1.", ".-1.", ".1_0."]
        wrong += [". 0.", ".0 .", " .0.", ".0. ", ".0.\n", "\n.0.", "a b.0.", "a.0.b ", ".x.", ".1a.", ".a1.", ".0x1."]
        wrong += ["A.0.", ".0.A", "\u00e9.0.", ".0.\u00e9", "-.0.", ".0.-", "0.0.", ".0.0", "~.0.", ".0.~", "=a.0."]
        wrong += [".-.a", ".~-.", "a.~-.", ".-~.", ".--.", "A.-.", ".-.-", ".None.", ".\u0663.", ".\u00b2.", ".1\u0663."]
        wrong += [".-. ", " .-.", ".1.0.", ".0,", ".9:.", "`.0.", "{.0.", ".0.`", ".0.{", ".0:.", ".1/."]
        for text in wrong:
            self.assertEqual(outcome(Setting.read, text), ("InvalidText", {"at": 0}), text)

    def test_every_string_of_few_signs(self):
        for many in range(6):
            for signs in itertools.product("a.~-01", repeat=many):
                text = "".join(signs)
                kind, value = outcome(Setting.read, text)
                if kind == "returns":
                    self.assertEqual(str(value), text)
                else:
                    self.assertEqual((kind, value), ("InvalidText", {"at": 0}), text)
                    self.assertNotIn(text, FEW_SIGNS)
        self.assertTrue(all(str(Setting.read(text)) == text for text in FEW_SIGNS))


class EqualTest(unittest.TestCase):
    def test_equal_if_the_texts_are(self):
        settings = many_settings()
        for one, other in itertools.product(settings, settings):
            self.assertIs(one == other, str(one) == str(other))
            self.assertIs(one != other, str(one) != str(other))

    def test_equal_to_nothing_of_another_class(self):
        for setting in (Setting(0), Setting(None), Setting(0, "a", "b", True)):
            for value in any_values() + [str(setting), Program.read(MIRROR), (0, "", "", False), object()]:
                if not isinstance(value, Setting):
                    self.assertIs(setting == value, False)
                    self.assertIs(setting != value, True)

    def test_not_iterable(self):
        for setting in (Setting(0, "ab"), Setting(None)):
            with self.assertRaises(TypeError):
                iter(setting)

    def test_the_same_call_returns_an_equal_result(self):
        setting = Setting(1, "a", "b", True)
        self.assertEqual([setting.over("cd"), str(setting)], [setting.over("cd"), str(setting)])
        self.assertEqual(vars(setting), {"source": 1, "head": "a", "tail": "b", "is_turned": True})


FEW_SIGNS = [
    f"{head}.{turn}{source}.{tail}"
    for head in ("", "a", "aa")
    for turn in ("", "~")
    for source in ("0", "1", "10", "11")
    for tail in ("", "a", "aa")
    if len(head + turn + source + tail) <= 3
] + [".-.", "a.-.", "aa.-."]


if __name__ == "__main__":
    unittest.main()
