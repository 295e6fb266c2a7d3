"""Machines built from positions: whatever leads on by heads and tails becomes a state."""

from bentcoin.errors import LimitExceeded
from bentcoin.machines import MAX_STATES


def build_machine(start, follow, limit=MAX_STATES):
    """Return the machine with a state for each position that is reachable from the start.

    A position is a state that does not toss, which it stays, or any other tuple: from that one,
    follow(position, side) leads to the next. Raise LimitExceeded as soon as more than limit
    positions of the second kind are found: those of shorter tapes first, heads before tails.
    """
    found = [start]
    numbers = {start: 0}
    tossing = 0 if is_stop(start) else 1
    states = []
    # The list grows while it is read: a position is appended when it is found first.
    while len(states) < len(found):
        position = found[len(states)]
        if is_stop(position):
            states.append(position)
            continue
        successors = []
        for side in ("H", "T"):
            other = follow(position, side)
            if other not in numbers:
                numbers[other] = len(found)
                found.append(other)
                tossing += 0 if is_stop(other) else 1
                if tossing > limit:
                    raise LimitExceeded(limit)
            successors.append(numbers[other])
        states.append(("toss", *successors))
    return tuple(states)


def is_stop(position):
    """Tell whether a position is a state that does not toss."""
    return position[0] in ("end", "never")
