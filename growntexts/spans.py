"""Rows of integers, and which of them are sums of multiples of others."""

from math import gcd


class Span:
    """Rows of a width, none of which is a sum of multiples of others.

    Often rows have the same at several places, as two programs keep the same
    text. So only the places at which the rows that came were unlike are looked
    at: each other place has a twin among them.
    """

    def __init__(self, width):
        self.places = [0]
        self.twins = [(place, 0) for place in range(1, width)]
        # The rows at the places looked at. Each has a number above 0 at its
        # spot, where all rows behind it have 0.
        self.rows = []
        self.spots = []

    def takes(self, row):
        """Whether a row is no sum of multiples of those taken; then it is taken, too."""
        if any([row[place] != row[twin] for place, twin in self.twins]):
            self.part_twins(row)
        # As many rows as places: all rows are sums of them.
        if len(self.rows) == len(self.places):
            return False
        rest = lessened(self.rest([row[place] for place in self.places]))
        spot = least_place(rest)
        if spot is None:
            return False
        self.rows.append(rest if rest[spot] > 0 else [-entry for entry in rest])
        self.spots.append(spot)
        return True

    def part_twins(self, row):
        """Looks at further places, where a row is unlike its twins."""
        left = []
        # Places that are unlike their twin can be twins of each other.
        found = {}
        for place, twin in self.twins:
            if row[place] == row[twin]:
                left.append((place, twin))
            elif (twin, row[place]) in found:
                left.append((place, found[twin, row[place]]))
            else:
                found[twin, row[place]] = place
                self.look_at(place, twin)
        self.twins = left

    def look_at(self, place, twin):
        """Looks at one place more, where all rows so far have the same as at its twin."""
        spot = self.places.index(twin)
        self.places.append(place)
        self.rows = [kept + [kept[spot]] for kept in self.rows]

    def rest(self, row):
        """What is left of a multiple of a row, less multiples of those taken."""
        for spot, kept in zip(self.spots, self.rows):
            if row[spot] != 0:
                row = without(row, kept, row[spot], kept[spot])
        return row


def least_place(row):
    """The place of the least entry of a row but for 0, whatever its sign, or None."""
    found = [(abs(entry), place) for place, entry in enumerate(row) if entry != 0]
    return min(found)[1] if found else None


def without(row, other, entry, others):
    """A multiple of a row, less one of another row.

    They are such that an entry of the row, less that of the other row at its
    place, is 0. What is told of the other row is above 0; so is the first multiple.
    """
    common = gcd(entry, others)
    less = entry // common
    if common == others:
        return [one - less * two for one, two in zip(row, other)]
    times = others // common
    return [times * one - less * two for one, two in zip(row, other)]


def lessened(row):
    """A row divided by the greatest number that divides all of it."""
    common = 0
    for entry in row:
        common = gcd(common, entry)
        if common == 1:
            return row
    return row if common == 0 else [entry // common for entry in row]
