"""Rows of integers, and which of them are sums of multiples of others."""

from math import gcd


class Span:
    """All rows of a width that are sums of multiples of those that were put in.

    Rows may be longer than the width. What stands behind it goes along with
    all that is done to a row, but does not tell whether it is such a sum.
    """

    def __init__(self, width):
        self.width = width
        # Each row has a number above 0 at its place, and all others have 0
        # there: what is kept is told by the span alone, and so stays small.
        self.rows = []
        self.places = []

    def rest(self, row):
        """What is left of a multiple of a row, less multiples of those put in.

        It is nothing within the width just if the row is a sum of them.
        """
        for place, kept in zip(self.places, self.rows):
            row = without(row, place, kept)
        return lessened(row)

    def is_nothing(self, row):
        """Whether a row has only 0 within the width."""
        return first_place(row, self.width) is None

    def put(self, rest):
        """Puts in what is left of a row, if it is not nothing."""
        place = first_place(rest, self.width)
        row = rest if rest[place] > 0 else [-entry for entry in rest]
        self.rows = [lessened(without(kept, place, row)) for kept in self.rows] + [row]
        self.places.append(place)


def first_place(row, width):
    """The first place within the width where a row does not have 0, or None."""
    for place in range(width):
        if row[place] != 0:
            return place
    return None


def without(row, place, kept):
    """A multiple of a row, less one of another row, with 0 at a place.

    The other row has a number above 0 there, and so the first multiple is by
    a number above 0.
    """
    if row[place] == 0:
        return row
    common = gcd(row[place], kept[place])
    times = kept[place] // common
    less = row[place] // common
    return [times * entry - less * other for entry, other in zip(row, kept)]


def lessened(row):
    """A row divided by the greatest number that divides all of it."""
    common = 0
    for entry in row:
        common = gcd(common, entry)
        if common == 1:
            return row
    return row if common == 0 else [entry // common for entry in row]
