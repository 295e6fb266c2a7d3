"""Machines in the place of the coin, exchanged sides, and machines behind the ends of others."""

from bentcoin.building import build_machine
from bentcoin.errors import InvalidCoin, LimitExceeded
from bentcoin.machines import MAX_STATES, check_termination, is_toss, next_state, reachable_states


def coin_error(machine):
    """Return None if the machine is a coin machine, else "ends", "answers" or "sure"."""
    if check_termination(machine)[0] == "trap":
        return "ends"
    answers = reachable_answers(machine)
    if any([answer not in (0, 1) for answer in answers]):
        return "answers"
    return None if 0 in answers and 1 in answers else "sure"


def reachable_answers(machine):
    """Return the list of the answers of all reachable ends."""
    return [machine[index][1] for index in reachable_states(machine) if machine[index][0] == "end"]


def substitute_coin(machine, inner):
    """Return the machine that takes each toss from a fresh run of the inner machine."""
    reason = coin_error(inner)
    if reason is not None:
        raise InvalidCoin(reason)
    check_sum(count_substituted(machine, inner))

    def follow(position, side):
        index = next_state(inner, position[1], side)
        if is_toss(inner[index]):
            return (position[0], index)
        return outer_position(machine, next_state(machine, position[0], "H" if inner[index][1] == 1 else "T"))

    return build_machine(outer_position(machine, 0), follow)


def outer_position(machine, index):
    """Return the position in which a state of the outer machine is reached: the inner one begins."""
    return (index, 0) if is_toss(machine[index]) else machine[index]


def count_substituted(machine, inner):
    """Return the number of states with one for each pair of reachable toss states, and the stops."""
    reached = reachable_states(machine)
    tosses = count_reached_tosses(machine)
    return len(reached) - tosses + tosses * count_reached_tosses(inner)


def count_reached_tosses(machine):
    """Return the number of reachable toss states."""
    return len([index for index in reachable_states(machine) if is_toss(machine[index])])


def check_sum(states):
    """Raise LimitExceeded if so many states are too many for a machine."""
    if states > MAX_STATES:
        raise LimitExceeded(MAX_STATES)


def swap_sides(machine):
    """Return the machine with both successors of each toss exchanged."""
    return tuple([("toss", state[2], state[1]) if is_toss(state) else state for state in machine])


def chain_machines(machine, followers):
    """Return the machine that goes on, at each end whose answer is a key, with the machine for it."""
    check_sum(count_chained(machine, followers))

    def follow(position, side):
        answer, index = position
        if answer is None:
            return first_position(machine, followers, next_state(machine, index, side))
        return later_position(followers, answer, next_state(followers[answer], index, side))

    return build_machine(first_position(machine, followers, 0), follow)


def first_position(machine, followers, index):
    """Return the position in which a state of the first machine is reached."""
    state = machine[index]
    if is_toss(state):
        return (None, index)
    if state[0] == "end" and state[1] in followers:
        return later_position(followers, state[1], 0)
    return state


def later_position(followers, answer, index):
    """Return the position in which a state of the machine for an answer is reached."""
    state = followers[answer][index]
    return (answer, index) if is_toss(state) else state


def count_chained(machine, followers):
    """Return the number of reachable states that stay, and of those of the machines that follow."""
    answers = reachable_answers(machine)
    followed = [answer for answer in answers if answer in followers]
    total = len(reachable_states(machine)) - len(followed)
    for answer in sorted(set(followed)):
        total += len(reachable_states(followers[answer]))
    return total
