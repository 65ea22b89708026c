"""Numbers of texts: what becomes of texts if each sign is a digit.

The numbers of a text are three: its value, which the digits write to a base
above all of them; its back value, that of the text turned about; and its
weight, the base to the power of its length. No digit is 0, so that unlike
texts have unlike values.
"""

# The places of the three numbers.
VALUE = 0
BACK = 1
WEIGHT = 2


def digits_of(signs):
    """The digits of signs, by their ascending order."""
    return {sign: at + 1 for at, sign in enumerate(sorted(set(signs)))}


def text_numbers(text, digits):
    """The numbers of a text."""
    numbers = (0, 0, 1)
    for sign in text:
        digit = digits[sign]
        numbers = joined_numbers(numbers, (digit, digit, len(digits) + 1))
    return numbers


def joined_numbers(one, other):
    """The numbers of two texts that are joined, from those of both."""
    value, back, weight = one
    next_value, next_back, next_weight = other
    return value * next_weight + next_value, next_back * weight + back, weight * next_weight


def turned_numbers(numbers):
    """The numbers of a text that is turned about."""
    value, back, weight = numbers
    return back, value, weight


def set_numbers(setting, boxes, digits):
    """The new numbers of a box, from the elder numbers of all boxes."""
    head = text_numbers(setting.head, digits)
    if setting.source is None:
        return head
    source = boxes[setting.source]
    middle = turned_numbers(source) if setting.is_turned else source
    return joined_numbers(joined_numbers(head, middle), text_numbers(setting.tail, digits))


def row_numbers(row, boxes, digits):
    """The numbers of what a row of parts makes of the numbers of the boxes."""
    numbers = text_numbers("", digits)
    for part in row:
        numbers = joined_numbers(numbers, part_numbers(part, boxes, digits))
    return numbers


def part_numbers(part, boxes, digits):
    """The numbers of what a part makes of the numbers of the boxes."""
    kind, what = part
    if kind == "told":
        return text_numbers(what, digits)
    return turned_numbers(boxes[what]) if kind == "turned" else boxes[what]
