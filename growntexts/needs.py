"""Figures: products of numbers of boxes, and which of them a program needs.

A figure is the ascending tuple of the places (see `digits`) of the numbers
that are multiplied: any number, and weights. What is written is told by a sum
of multiples of figures, and each figure behind a letter is such a sum of
figures ahead of it.
"""

from growntexts.digits import BACK, EACH, VALUE, WEIGHT


def row_figures(row):
    """The figures of which the value of a row of parts is made."""
    found = []
    behind = []
    for kind, what in row[::-1]:
        if kind == "told":
            found.append(tuple(sorted(behind)))
        else:
            place = EACH * what + (BACK if kind == "turned" else VALUE)
            found.append(tuple(sorted(behind + [place])))
            behind.append(EACH * what + WEIGHT)
    return found


def elder_places(rule):
    """The places, each in a tuple, of the numbers of which a rule makes a number.

    A told number stands at no place: its tuple is empty.
    """
    told, more, weight, times, number = rule
    found = [()] if told != 0 else []
    if more != 0:
        found.append((weight,))
    if times != 0:
        found.append((number,))
    return found


def elder_figures(figure, elders):
    """The figures ahead of a letter of which a figure behind it is made.

    `elders` has the elder places for each number behind it.
    """
    found = elders[figure[0]]
    for place in figure[1:]:
        found = [tuple(sorted(one + more)) for one in found for more in elders[place]]
    return found


def needs(ways, rows):
    """For each mode the figures that tell the values of rows from there on.

    `ways` has for each mode, and each letter, the next mode and the rules;
    `rows` are pairs of a mode and a row of parts.
    """
    arriving = ways_to_modes(ways)
    found = [{} for _ in ways]
    queue = [(mode, figure) for mode, row in rows for figure in row_figures(row)]
    while queue:
        mode, figure = queue.pop()
        # The product of no numbers is 1 for all inputs.
        if figure != () and figure not in found[mode]:
            found[mode][figure] = True
            for before, elders in arriving[mode]:
                queue.extend([(before, elder) for elder in elder_figures(figure, elders)])
    return [sorted(figures) for figures in found]


def ways_to_modes(ways):
    """For each mode the ways that lead there: the mode before, and the elder places."""
    found = [[] for _ in ways]
    for before, row in enumerate(ways):
        for target, rules in row:
            found[target].append((before, [elder_places(rule) for rule in rules]))
    return found
