"""Settings, which tell how a box is set."""

from growntexts.checks import is_number, is_number_text, is_word
from growntexts.errors import InvalidSetting, InvalidText


class Setting:
    """How a box is set from an elder box, or from none."""

    def __init__(self, source, head="", tail="", is_turned=False):
        word = first_wrong(source, head, tail, is_turned)
        if word is not None:
            raise InvalidSetting(word)
        self.source = source
        self.head = head
        self.tail = tail
        self.is_turned = is_turned

    def over(self, text):
        """The new text of the box, where its source holds this text."""
        if self.source is None:
            return self.head
        middle = text[::-1] if self.is_turned else text
        return self.head + middle + self.tail

    @classmethod
    def read(cls, text):
        """The setting that has this text."""
        words = text.split(".")
        if len(words) != 3 or not is_word(words[0]) or not is_word(words[2]):
            raise InvalidText(0)
        head, source, tail = words
        if source == "-" and tail == "":
            return cls(None, head)
        number = source.removeprefix("~")
        if not is_number_text(number):
            raise InvalidText(0)
        return cls(int(number), head, tail, source.startswith("~"))

    def __eq__(self, other):
        # Unlike texts have unlike attributes, and the other way round.
        return (
            isinstance(other, Setting)
            and self.source == other.source
            and self.head == other.head
            and self.tail == other.tail
            and self.is_turned == other.is_turned
        )

    def __str__(self):
        if self.source is None:
            return f"{self.head}.-."
        if self.is_turned:
            return f"{self.head}.~{self.source}.{self.tail}"
        return f"{self.head}.{self.source}.{self.tail}"


def first_wrong(source, head, tail, is_turned):
    """The name of the first argument of a setting that is wrong, or None."""
    has_source = source is not None
    if has_source and not is_number(source):
        return "source"
    if not is_word(head):
        return "head"
    if not is_word(tail) or (tail != "" and not has_source):
        return "tail"
    if not isinstance(is_turned, bool) or (is_turned and not has_source):
        return "is_turned"
    return None
