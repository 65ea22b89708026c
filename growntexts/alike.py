"""Whether two programs write the same for all inputs."""

from growntexts.needs import needs
from growntexts.pairs import check_letters
from growntexts.readers import Readers
from growntexts.search import Search
from growntexts.writing import write


def alike(p, q):
    """Whether two programs write the same for all inputs, and refuse the same ones."""
    return parting(p, q) is None


def parting(p, q):
    """The first input for which two programs do not write the same, or None."""
    check_letters(p, q)
    # Many programs part at once, and then nothing has to be reckoned.
    if write(p, "") != write(q, ""):
        return ""
    readers = Readers((p, q))
    search = Search(readers, written_needs(readers))
    return parting_behind(search, readers.first())


def written_needs(readers):
    """For each program and mode the figures that tell all that is written from there on."""
    return [
        needs(ways, [(mode, row) for mode, row in enumerate(program.ends) if row is not None])
        for program, ways in zip(readers.programs, readers.ways)
    ]


def parting_behind(search, state):
    """The first input behind a state for which two programs do not write the same, or None.

    It is looked for only among inputs that are needed behind this state and
    those that were asked for before.
    """
    search.begin_at(state)
    while (found := search.advance()) is not None:
        text, led = found
        if not search.readers.writes_same(led):
            return text
    return None
