"""By which integers rows are taken, so that their sum is another row."""

from math import gcd, lcm

from growntexts.spans import least_place, lessened, without


def sums_of(rows, others):
    """For each of the other rows, the sum that it is of multiples of the rows.

    There are as many rows as a row has entries, and none is a sum of multiples
    of the rest. A sum has an integer for each row, and a last one above 0, by
    which the other row is taken; together they are as small as can be.
    """
    if not rows:
        return [[1] for _ in others]
    # Each place tells an equation: what the rows have there, what the others have.
    equations = [list(line) for line in zip(*rows, *others)]
    leads = []
    for _ in rows:
        lead = equations.pop(least_place([equation[0] for equation in equations]))
        leads.append(lead)
        equations = [shortened(equation, lead) for equation in equations]
    solved = []
    for lead in leads[::-1]:
        solved = [solved_row(lead, solved)] + solved
    lasts = [last for last, _ in solved]
    fractions = [row for _, row in solved]
    return [whole_sum(factors, lasts) for factors in zip(*fractions)]


def shortened(equation, lead):
    """An equation without its first entry, less a multiple of one that leads, to make that 0."""
    if equation[0] == 0:
        return equation[1:]
    if lead[0] < 0:
        lead = [-entry for entry in lead]
    return lessened(without(equation[1:], lead[1:], equation[0], lead[0]))


def solved_row(lead, later):
    """By which fractions a row is taken for each other row: the integer below them all, and those above.

    `lead` is an equation that begins with this row, and goes on with the later
    ones, whose fractions are known.
    """
    many = len(later) + 1
    common = common_last(lead[1:many], [last for last, _ in later])
    rest = [common * entry for entry in lead[many:]]
    for factor, (last, row) in zip(lead[1:many], later):
        if factor != 0:
            times = factor * common // last
            rest = [entry - times * other for entry, other in zip(rest, row)]
    below, *above = lessened([common * lead[0]] + rest)
    return (below, above) if below > 0 else (-below, [-entry for entry in above])


def whole_sum(factors, lasts):
    """Fractions over one last integer, which stands behind what is above it."""
    common = common_last(factors, lasts)
    return [factor * common // last for factor, last in zip(factors, lasts)] + [common]


def common_last(factors, lasts):
    """The least integer above 0 over which all these fractions can be written."""
    common = 1
    for factor, last in zip(factors, lasts):
        if common % last != 0:
            common = lcm(common, last // gcd(last, factor))
    return common
