"""Probabilities by counting choices: one successor for each tosser of a machine."""

from bentcoin.errors import LimitExceeded
from bentcoin.forms import from_form
from bentcoin.machines import end_distances, is_toss, reachable_states
from bentcoin.probabilities import ranks_of
from bentcoin.rationals import reduce_rational

MAX_CHOICE_STATES = 10


def list_tossers(machine):
    """Return the list of tossers: reachable toss states that have an end distance."""
    distances = end_distances(machine)
    tossers = [k for k in reachable_states(machine) if is_toss(machine[k]) and distances[k] is not None]
    if len(tossers) > MAX_CHOICE_STATES:
        raise LimitExceeded(MAX_CHOICE_STATES)
    return tossers


def count_choices(machine, tossers, goals):
    """Return the numbers, by weight, of good choices of these tossers that lead state 0 to a goal.

    A choice stops at each other state: an end, a state without an end distance, or a tosser that
    is left out here. The goals are states of these kinds.
    """
    counts = [0] * (len(tossers) + 1)
    for mask in range(1 << len(tossers)):
        # Bit k of the mask tells whether tosser k takes its heads successor.
        sides = [mask >> k & 1 for k in range(len(tossers))]
        selected = {index: machine[index][2 - side] for index, side in zip(tossers, sides)}
        stops = [follow_choice(selected, index) for index in tossers]
        if None not in stops and follow_choice(selected, 0) in goals:
            counts[sum(sides)] += 1
    return tuple(counts)


def follow_choice(selected, start):
    """Return the first state without a selected successor, from start on; None if none comes."""
    index = start
    for _ in range(len(selected) + 1):
        if index not in selected:
            return index
        index = selected[index]
    return None


def count_good_choices(machine):
    """Return the tuple of the numbers of good choices by weight."""
    tossers = list_tossers(machine)
    return count_choices(machine, tossers, list(range(len(machine))))


def recipe_from_choices(machine, answer):
    """Return the recipe for this answer, or for running forever if the answer is -1."""
    tossers = list_tossers(machine)
    goals = [index for index in range(len(machine)) if stop_answer(machine, index) == answer]
    return (len(tossers), count_choices(machine, tossers, goals), count_good_choices(machine))


def stop_answer(machine, index):
    """Return the answer of an end; -1 for another state, where a choice stops if no end is reachable."""
    return machine[index][1] if machine[index][0] == "end" else -1


def expected_tosses_from_choices(machine):
    """Return the expected number of tosses, a rational function; the machine surely ends."""
    tossers = list_tossers(machine)
    ranks_of(machine)
    if tossers == []:
        return ((), (1,))
    total = [0] * len(tossers)
    for index in tossers:
        others = [other for other in tossers if other != index]
        for k, count in enumerate(count_choices(machine, others, [index])):
            total[k] += count
    return reduce_rational(from_form(total), from_form(count_good_choices(machine)))
