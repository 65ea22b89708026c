"""Modes of programs, and which inputs lead to them."""

from growntexts.checks import is_number_below
from growntexts.errors import NoMode


def check_mode(program, mode):
    """Raises an error if a value is no number of a mode of a program."""
    if not is_number_below(mode, program.modes):
        raise NoMode(mode)


def first_inputs(program):
    """The first input that leads to each mode, for those to which one does."""
    found = {program.begin[0]: ""}
    queue = [program.begin[0]]
    at = 0
    while at < len(queue):
        mode = queue[at]
        for letter, (target, _) in zip(program.letters, program.ways[mode]):
            if target not in found:
                found[target] = found[mode] + letter
                queue.append(target)
        at += 1
    return found
