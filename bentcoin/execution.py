"""Programs run on tapes, and the machines that do what they do."""

from bentcoin.building import build_machine, is_stop
from bentcoin.walking import Walker

MAX_STEPS = 300
MAX_PROGRAM_STATES = 48


def run_program(program, tape):
    """Return ("ended", answer, used), ("never", used) or ("going", used)."""
    walker = Walker(program, MAX_STEPS)
    position = walker.start()
    used = 0
    while used < len(tape) and not is_stop(position):
        position = walker.follow(position, tape[used])
        used += 1
    if not is_stop(position):
        return ("going", used)
    return ("never", used) if position[0] == "never" else ("ended", position[1], used)


def compile_program(program):
    """Return a machine that simulates the program, with a toss state for each position at a toss."""
    walker = Walker(program, MAX_STEPS)
    return build_machine(walker.start(), walker.follow, MAX_PROGRAM_STATES)
