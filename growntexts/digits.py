"""Numbers of texts: what becomes of texts if each sign is a digit.

The numbers of a text are three: its value, which the digits write to a base
above all of them; its back value, that of the text turned about; and its
weight, the base to the power of its length. No digit is 0, so that unlike
texts have unlike values. The numbers of several boxes stand in one row, three
for each box.
"""

# The places of the three numbers.
VALUE = 0
BACK = 1
WEIGHT = 2
# How many numbers a box has.
EACH = 3


def digits_of(signs):
    """The digits of signs, by their ascending order."""
    return {sign: at + 1 for at, sign in enumerate(sorted(set(signs)))}


def text_numbers(text, digits):
    """The numbers of a text."""
    base = len(digits) + 1
    value = 0
    back = 0
    weight = 1
    for sign in text:
        digit = digits[sign]
        value = value * base + digit
        back = digit * weight + back
        weight = weight * base
    return value, back, weight


def texts_numbers(texts, digits):
    """The numbers of the texts of several boxes."""
    return [number for text in texts for number in text_numbers(text, digits)]


def setting_rules(setting, digits):
    """How the three new numbers of a box come from the elder numbers of all boxes.

    A rule (told, more, weight, times, number) tells a number that is `told`,
    and `more` times the number at the place `weight`, and `times` times that
    at the place `number`.
    """
    value, back, weight = text_numbers(setting.head, digits)
    if setting.source is None:
        return [(value, 0, 0, 0, 0), (back, 0, 0, 0, 0), (weight, 0, 0, 0, 0)]
    tail_value, tail_back, tail_weight = text_numbers(setting.tail, digits)
    source = EACH * setting.source
    ahead, behind = (BACK, VALUE) if setting.is_turned else (VALUE, BACK)
    return [
        (tail_value, value * tail_weight, source + WEIGHT, tail_weight, source + ahead),
        (back, tail_back * weight, source + WEIGHT, weight, source + behind),
        (0, weight * tail_weight, source + WEIGHT, 0, source + WEIGHT),
    ]


def way_rules(way, digits):
    """The rules of all boxes for a way."""
    return [rule for setting in way[1] for rule in setting_rules(setting, digits)]


def moved_rule(rule, by):
    """A rule over numbers that stand farther behind."""
    told, more, weight, times, number = rule
    return told, more, weight + by, times, number + by


def row_value(row, numbers, digits):
    """The value of what a row of parts makes of boxes with these numbers."""
    total = 0
    for kind, what in row:
        if kind == "told":
            value, _, weight = text_numbers(what, digits)
        else:
            value = numbers[EACH * what + (BACK if kind == "turned" else VALUE)]
            weight = numbers[EACH * what + WEIGHT]
        total = total * weight + value
    return total
