"""Two things that read the same letters together."""

from growntexts.errors import InvalidPair


def check_letters(one, other):
    """Raises an error if two things do not have the same letters in the same order."""
    if one.letters != other.letters:
        raise InvalidPair("letters")


def numbered(first, follow):
    """All states that come about from a first one, numbered as they come about.

    `follow` tells for a state those that come next.
    """
    numbers = {first: 0}
    queue = [first]
    at = 0
    while at < len(queue):
        states = follow(queue[at])
        for state in states:
            if state not in numbers:
                numbers[state] = len(queue)
                queue.append(state)
        at += 1
    return numbers
