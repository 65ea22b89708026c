"""Desks, which do commands over programs that are kept by names."""

from growntexts.alike import parting
from growntexts.checks import is_word
from growntexts.errors import InvalidCommand
from growntexts.live import Live
from growntexts.programs import Program
from growntexts.reaching import first_input
from growntexts.shaping import turned
from growntexts.writing import write

# What stands behind the word of a command: a new name, the name of a program
# that is kept, a text or an input, or the text of a program (up to the end).
FORMS = {
    "keep": ("new", "program"),
    "turn": ("kept", "new"),
    "write": ("kept", "word"),
    "alike": ("kept", "kept"),
    "first": ("kept", "word"),
    "read": ("kept",),
    "on": ("word",),
    "boxes": (),
    "undo": (),
}
# The commands that want a live reader.
READING = ("on", "boxes", "undo")


def words_of(command):
    """The word of a command and what stands behind it, or None if a value has no such form."""
    if not isinstance(command, str) or "\n" in command:
        return None
    words = command.split(" ")
    if "" in words or words[0] not in FORMS:
        return None
    kinds = FORMS[words[0]]
    if "program" in kinds and len(words) > len(kinds):
        words = words[:len(kinds)] + [" ".join(words[len(kinds):])]
    return words if len(words) == len(kinds) + 1 else None


def is_known(kind, word, kept):
    """Whether a word is of a kind, with these names of programs that are kept."""
    if kind == "kept":
        return word in kept
    if kind == "new":
        return is_word(word) and len(word) <= 4
    return kind == "program" or word == "-" or is_word(word)


def told(word):
    """The text or the input that a word of a command stands for."""
    return "" if word == "-" else word


def answer(text):
    """The word of an answer for a text or an input, or for None."""
    if text is None:
        return "none"
    return "-" if text == "" else text


def keep(desk, name, text):
    """Keeps the program with a text."""
    desk.kept[name] = Program.read(text.replace(" ; ", "\n"))
    return str(desk.kept[name].modes)


def turn(desk, name, other):
    """Keeps a program turned about by another name."""
    desk.kept[other] = turned(desk.kept[name])
    return str(desk.kept[other].modes)


def write_for(desk, name, word):
    """What a program writes for an input."""
    return answer(write(desk.kept[name], told(word)))


def compare(desk, name, other):
    """Whether two programs are alike, or the first input that parts them."""
    text = parting(desk.kept[name], desk.kept[other])
    return "alike" if text is None else answer(text)


def first_for(desk, name, word):
    """The first input that writes a text."""
    return answer(first_input(desk.kept[name], told(word)))


def begin_reading(desk, name):
    """Lets a program read on from the empty input."""
    desk.live = Live(desk.kept[name])
    return answer(desk.live.shown)


def go_on(desk, word):
    """Lets the live reader read letters."""
    desk.live.several(told(word))
    return answer(desk.live.shown)


def tell_boxes(desk):
    """The mode and the texts of the boxes of the live reader."""
    return " ".join([str(desk.live.spot)] + [answer(text) for text in desk.live.texts])


def take_back(desk):
    """Takes back the last deed of the live reader."""
    return "undone" if desk.live.undo() else "nothing"


ACTIONS = {
    "keep": keep,
    "turn": turn,
    "write": write_for,
    "alike": compare,
    "first": first_for,
    "read": begin_reading,
    "on": go_on,
    "boxes": tell_boxes,
    "undo": take_back,
}


class Desk:
    """Programs by their names, and a live reader."""

    def __init__(self):
        self.live = None
        self.kept = {}

    def say(self, command):
        """Does a command, and returns the answer."""
        words = words_of(command)
        if words is None or not self.can_do(words):
            raise InvalidCommand()
        action = ACTIONS[words[0]]
        behind = words[1:]
        return action(self, *behind)

    def can_do(self, words):
        """Whether the words behind that of a command are of their kinds, and a live reader is there if wanted."""
        if words[0] in READING and self.live is None:
            return False
        return all([is_known(kind, word, self.kept) for kind, word in zip(FORMS[words[0]], words[1:])])
