"""Figures: products of numbers of boxes, and which of them a program needs.

A figure is a tuple (place, box, others): the number of a box at a place (see
`digits`), times the weights of other boxes, which ascend. What is written is
told by a sum of multiples of figures, and each figure behind a letter is such
a sum of figures ahead of it.
"""

from growntexts.digits import BACK, VALUE, WEIGHT


def figure_of(figure, boxes):
    """What a figure is for the numbers of the boxes."""
    place, box, others = figure
    product = boxes[box][place]
    for other in others:
        product *= boxes[other][WEIGHT]
    return product


def weights_of(boxes):
    """The figure that is the product of the weights of boxes, in a list.

    Without boxes there is none: this product is 1 for all inputs.
    """
    found = sorted(boxes)
    return [(WEIGHT, found[0], tuple(found[1:]))] if found else []


def row_figures(row):
    """The figures of which the value of a row of parts is made."""
    found = []
    behind = []
    for kind, what in row[::-1]:
        if kind == "told":
            found.extend(weights_of(behind))
        else:
            place = BACK if kind == "turned" else VALUE
            found.append((place, what, tuple(sorted(behind))))
            behind.append(what)
    return found


def elder_figures(figure, settings):
    """The figures ahead of a letter of which a figure behind it is made."""
    place, box, others = figure
    sources = [settings[other].source for other in others]
    elder = sorted([source for source in sources if source is not None])
    setting = settings[box]
    if setting.source is None:
        return weights_of(elder)
    if place == WEIGHT:
        return weights_of(elder + [setting.source])
    found = [(elder_place(place, setting), setting.source, tuple(elder))]
    ahead, behind = (setting.head, setting.tail) if place == VALUE else (setting.tail, setting.head)
    if ahead != "":
        found.extend(weights_of(elder + [setting.source]))
    if behind != "":
        found.extend(weights_of(elder))
    return found


def elder_place(place, setting):
    """The place of the number of the source that becomes the one at this place."""
    if not setting.is_turned:
        return place
    return BACK if place == VALUE else VALUE


def needs(program):
    """For each mode the figures that tell all that is written from there on."""
    found = [{} for _ in program.ends]
    queue = []
    for mode, row in enumerate(program.ends):
        if row is not None:
            queue.extend([(mode, figure) for figure in row_figures(row)])
    while queue:
        mode, figure = queue.pop()
        if figure not in found[mode]:
            found[mode][figure] = True
            queue.extend(elder_needs(program, mode, figure))
    return [sorted(figures) for figures in found]


def elder_needs(program, mode, figure):
    """The modes, with figures, that a figure in a mode is made of."""
    return [
        (before, elder)
        for before, row in enumerate(program.ways)
        for target, settings in row
        if target == mode
        for elder in elder_figures(figure, settings)
    ]
