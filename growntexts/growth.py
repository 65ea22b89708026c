"""How long the texts are that a program writes.

What is written is made of told signs and of boxes, and each of these was set
from one elder box at most. So behind a mode it matters only which boxes of now
go into what is written, and how many signs are told on the way. A *place* is a
pair of a mode and the ascending tuple of these boxes, some of them twice.
"""

from math import gcd, lcm

from growntexts.modes import first_inputs


def longest(program, many):
    """The greatest length of a text that is written for an input of so many letters, or None."""
    return extreme(program, many, True)


def shortest(program, many):
    """The least length of a text that is written for an input of so many letters, or None."""
    return extreme(program, many, False)


def greatest(program):
    """The greatest length of all texts that are ever written, or None if there is none."""
    table = length_table(program)
    if steepest(table) != (0, 1):
        return None
    # Rounds put nothing to what is written, so the inputs without rounds tell all.
    found = [begin_length(program, lengths, True) for lengths in table]
    return max([length for length in found if length is not None] + [0])


def slope(program):
    """How many signs are written for how many letters at the most, as inputs grow."""
    return steepest(length_table(program))


def extreme(program, many, is_longest):
    """The greatest or the least length for an input of so many letters, or None."""
    lengths = end_lengths(program)
    routes = routes_to(program, lengths)
    for _ in range(many):
        lengths = lengths_ahead(routes, lengths, is_longest)
    return begin_length(program, lengths, is_longest)


def end_lengths(program):
    """For each place at which an input may end, how many signs are told there."""
    return {
        (mode, row_boxes(program.ends[mode])): sum([len(what) for kind, what in program.ends[mode] if kind == "told"])
        for mode in first_inputs(program)
        if program.ends[mode] is not None
    }


def row_boxes(row):
    """The boxes of a row of parts, ascending."""
    return tuple(sorted([what for kind, what in row if kind != "told"]))


def routes_to(program, ends):
    """For each place how many signs each letter tells, and to which place it leads.

    These are the places from which an input may end, and to whose modes one leads.
    """
    modes = list(first_inputs(program))
    found = {}
    queue = list(ends)
    seen = {place: True for place in queue}
    while queue:
        place = queue.pop()
        for elder, told in places_ahead(program, modes, place):
            found.setdefault(elder, []).append((told, place))
            if elder not in seen:
                seen[elder] = True
                queue.append(elder)
    return found


def places_ahead(program, modes, place):
    """The places in some modes one letter ahead of a place, each with the signs that the letter tells."""
    target, boxes = place
    return [
        ((mode, elder_boxes(settings, boxes)), told_signs(settings, boxes))
        for mode in modes
        for following, settings in program.ways[mode]
        if following == target
    ]


def elder_boxes(settings, boxes):
    """The boxes from which boxes are set, ascending."""
    sources = [settings[box].source for box in boxes]
    return tuple(sorted([source for source in sources if source is not None]))


def told_signs(settings, boxes):
    """How many signs settings put to boxes."""
    return sum([len(settings[box].head) + len(settings[box].tail) for box in boxes])


def lengths_ahead(routes, lengths, is_longest):
    """From the greatest or least lengths that are told from places on those for one letter more."""
    found = {}
    for place, ways in routes.items():
        told = [signs + lengths[target] for signs, target in ways if target in lengths]
        if told:
            found[place] = max(told) if is_longest else min(told)
    return found


def begin_length(program, lengths, is_longest):
    """The greatest or the least length from the beginning on, or None."""
    begin, texts = program.begin
    found = [
        length + sum([len(texts[box]) for box in boxes])
        for (mode, boxes), length in lengths.items()
        if mode == begin
    ]
    if not found:
        return None
    return max(found) if is_longest else min(found)


def length_table(program):
    """The greatest lengths that are told from places on, for each number of letters up to that of places."""
    lengths = end_lengths(program)
    routes = routes_to(program, lengths)
    table = [lengths]
    for _ in {**lengths, **routes}:
        table.append(lengths_ahead(routes, table[-1], True))
    return table


def steepest(table):
    """The greatest mean of the signs that rounds of places tell, in lowest terms; (0, 1) without rounds.

    R. M. Karp found how to tell it. Of each place the greatest length for as
    many letters as there are places is compared with that for fewer ones; the
    least of these means is taken, and of those of all places the greatest one.
    """
    many = len(table) - 1
    # All means are told over one last integer.
    last = 1
    for letters in range(1, many + 1):
        last = lcm(last, letters)
    means = [
        min([
            (length - lengths[place]) * (last // (many - at))
            for at, lengths in enumerate(table[:many])
            if place in lengths
        ])
        for place, length in table[many].items()
    ]
    best = max(means + [0])
    common = gcd(best, last)
    return best // common, last // common
