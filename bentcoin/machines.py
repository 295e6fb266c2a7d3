"""Machines: their errors, reachable states, end distances, termination, and runs on tapes."""

from bentcoin.kinds import begins_with, is_index, is_integer

MAX_STATES = 60
MAX_ANSWER = 99


def machine_error(value):
    """Return None if any value is a machine, else the index of the first invalid state and a word."""
    if not isinstance(value, tuple) or not 1 <= len(value) <= MAX_STATES:
        return (-1, "form")
    for index, state in enumerate(value):
        word = state_error(state, len(value))
        if word is not None:
            return (index, word)
    return None


def state_error(state, size):
    """Return None if any value is a state of a machine of this size, else a word."""
    if begins_with(state, "never", 1):
        return None
    if begins_with(state, "toss", 3) and is_integer(state[1]) and is_integer(state[2]):
        return None if is_index(state[1], size) and is_index(state[2], size) else "place"
    if begins_with(state, "end", 2) and is_integer(state[1]):
        return None if 0 <= state[1] <= MAX_ANSWER else "answer"
    return "form"


def is_toss(state):
    """Tell whether the state of a machine tosses."""
    return state[0] == "toss"


def count_tosses(machine):
    """Return the number of states that toss, reachable or not."""
    return sum([1 for state in machine if is_toss(state)])


def list_answers(machine):
    """Return the ascending list of the answers of all ends, reachable or not."""
    return sorted({state[1] for state in machine if state[0] == "end"})


def reachable_states(machine):
    """Return the tuple of reachable states in ascending order."""
    return tuple(sorted(find_tapes(machine, 0)))


def find_tapes(machine, start):
    """Return a dict from each state that is reachable from start to a shortest tape to it."""
    tapes = {start: ""}
    waiting = [start]
    # The list grows while it is read: a state is appended when it is reached first.
    at = 0
    while at < len(waiting):
        index = waiting[at]
        at += 1
        if is_toss(machine[index]):
            for side, successor in (("H", machine[index][1]), ("T", machine[index][2])):
                if successor not in tapes:
                    tapes[successor] = tapes[index] + side
                    waiting.append(successor)
    return tapes


def end_distances(machine):
    """Return a tuple with the end distance of each state; None where no end can be reached."""
    distances = [0 if state[0] == "end" else None for state in machine]
    for distance in range(1, len(machine)):
        for index, state in enumerate(machine):
            if distances[index] is None and is_toss(state):
                if distance - 1 in (distances[state[1]], distances[state[2]]):
                    distances[index] = distance
    return tuple(distances)


def check_termination(machine):
    """Return ("ends", ranks) if the machine surely ends, else ("trap", tape, states)."""
    tapes = find_tapes(machine, 0)
    distances = end_distances(machine)
    for index in tapes:
        if distances[index] is None:
            return ("trap", tapes[index], tuple(sorted(find_tapes(machine, index))))
    return ("ends", tuple([found if k in tapes else None for k, found in enumerate(distances)]))


def run_machine(machine, tape):
    """Return ("ended", answer, used), ("never", used) or ("going", state)."""
    index = 0
    used = 0
    while is_toss(machine[index]):
        if used == len(tape):
            return ("going", index)
        index = next_state(machine, index, tape[used])
        used += 1
    if machine[index][0] == "never":
        return ("never", used)
    return ("ended", machine[index][1], used)


def next_state(machine, index, side):
    """Return the successor of a toss state for "H" or "T"."""
    return machine[index][1] if side == "H" else machine[index][2]


def count_tapes(machine, length):
    """Return two dicts of counts by heads: of tapes that stop at each length, and that still toss.

    The first is by answer (-1 for "never"), the second by toss state for this length.
    """
    stopped = {}
    going = {0: [1]}
    for used in range(length + 1):
        tossing = {}
        for index in going:
            if is_toss(machine[index]):
                tossing[index] = going[index]
            else:
                add_stopped(stopped, machine[index], going[index], length)
        if used < length:
            going = toss_once(machine, tossing, used)
    counts = {answer: tuple([tuple(row) for row in stopped[answer]]) for answer in stopped}
    return (counts, {index: tuple(tossing[index]) for index in tossing})


def add_stopped(stopped, state, counts, length):
    """Add the counts of the tapes that lead to an end or to a "never" state with their last toss."""
    answer = -1 if state[0] == "never" else state[1]
    if answer not in stopped:
        stopped[answer] = [[0] * (used + 1) for used in range(length + 1)]
    row = stopped[answer][len(counts) - 1]
    for heads, count in enumerate(counts):
        row[heads] += count


def toss_once(machine, tossing, used):
    """Return the counts by state, one toss later; used is the number of tosses before."""
    going = {}
    for index in tossing:
        for added, successor in enumerate((machine[index][2], machine[index][1])):
            if successor not in going:
                going[successor] = [0] * (used + 2)
            for heads, count in enumerate(tossing[index]):
                going[successor][heads + added] += count
    return going
