"""Questions about any values, which the other modules ask of their arguments."""


def is_integer(value):
    """Whether a value is an integer; True and False are none."""
    return isinstance(value, int) and not isinstance(value, bool)


def are_integers(values):
    """Whether all of some values are integers."""
    # As is_integer, but papers have so many that a call for each takes long.
    return all([isinstance(value, int) and value is not True and value is not False for value in values])


def is_number(value):
    """Whether a value is an integer from 0 on."""
    return is_integer(value) and value >= 0


def is_number_below(value, end):
    """Whether a value is a number below an end."""
    return is_number(value) and value < end


def is_sequence(value):
    """Whether a value may be passed where a sequence is expected."""
    return isinstance(value, (list, tuple))


def is_pair(value):
    """Whether a value is a tuple of two things."""
    return isinstance(value, tuple) and len(value) == 2


def is_word(value):
    """Whether a value is a string of lower-case letters, perhaps an empty one."""
    return isinstance(value, str) and all(["a" <= sign <= "z" for sign in value])


def is_alphabet(value):
    """Whether a value is a string of unlike lower-case letters, at least one."""
    return is_word(value) and value != "" and len(set(value)) == len(value)


def first_foreign(value, alphabet):
    """The number of the first thing in a value that is not of an alphabet.

    It is 0 if the value is no string, and None if there is no such thing.
    """
    if not isinstance(value, str):
        return 0
    for at, sign in enumerate(value):
        if sign not in alphabet:
            return at
    return None


def is_spelt(value, alphabet):
    """Whether a value is a string of an alphabet alone, perhaps an empty one."""
    return first_foreign(value, alphabet) is None


def is_letter(value, alphabet):
    """Whether a value is one letter of an alphabet."""
    return is_spelt(value, alphabet) and len(value) == 1


def is_table(value, alphabet):
    """Whether a value is a string with one letter of an alphabet for each of them."""
    return is_spelt(value, alphabet) and len(value) == len(alphabet)


def is_number_text(word):
    """Whether a string is a number as it is written in texts."""
    # isdigit would let in digits of other scripts.
    if not all(["0" <= sign <= "9" for sign in word]):
        return False
    return len(word) == 1 or (len(word) == 2 and word[0] != "0")
