"""Texts of rational functions, machines, recipes and programs, and the values that have them."""

from bentcoin.errors import ParseError
from bentcoin.kinds import is_rational_pair
from bentcoin.machines import MAX_STATES, machine_error, state_error
from bentcoin.rationals import reduce_rational
from bentcoin.recipes import recipe_error
from bentcoin.texts import Reader, read_integer, split_lines, write_block


def format_rational(rational):
    """Return the text of a rational function."""
    return f"{format_polynomial(rational[0])} / {format_polynomial(rational[1])}"


def format_polynomial(polynomial):
    """Return the text of a polynomial."""
    return "0" if polynomial == () else " ".join([str(c) for c in polynomial])


def format_machine(machine):
    """Return the text of a machine, a line for each state."""
    return join_lines([" ".join([str(part) for part in state]) for state in machine])


def join_lines(lines):
    """Return the text of lines, each with a line end."""
    return "".join([line + "\n" for line in lines])


def format_recipe(recipe):
    """Return the text of a recipe."""
    tosses, ds, es = recipe
    return f"{tosses}: " + " ".join([f"{d}/{e}" for d, e in zip(ds, es)])


def format_program(program):
    """Return the text of a program."""
    lines = write_block(program[0], 0)
    for word, block in program[1]:
        lines.extend([f"def {word}", *write_block(block, 1)])
    return join_lines(lines)


def parse_rational(text):
    """Return the rational function that has this text."""
    upper, _, lower = text.partition(" / ")
    rational = (parse_polynomial(upper), parse_polynomial(lower))
    # The kind is looked at first: two polynomials are reduced, and no others.
    if not is_rational_pair(rational) or reduce_rational(rational[0], rational[1]) != rational:
        raise ParseError(0)
    return rational


def parse_polynomial(text):
    """Return the polynomial that has this text; None if there is none."""
    return () if text == "0" else parse_integers(text.split(" "))


def parse_integers(words):
    """Return the tuple of the integers that these words are; None if one of them is none."""
    numbers = tuple([read_integer(word) for word in words])
    return None if None in numbers else numbers


def parse_machine(text):
    """Return the machine that has this text."""
    lines = split_lines(text)
    states = []
    for at, line in enumerate(lines):
        state = parse_state(line)
        # A successor may be on a later line, as long as there may be one.
        if at >= MAX_STATES or state_error(state, MAX_STATES) is not None:
            raise ParseError(at)
        states.append(state)
    machine = tuple(states)
    if machine_error(machine) is not None:
        raise ParseError(len(lines))
    return machine


def parse_state(line):
    """Return the tuple of a word and integers that a line is; some other value if it is none."""
    words = line.split(" ")
    return (words[0], *[read_integer(word) for word in words[1:]])


def parse_recipe(text):
    """Return the recipe that has this text."""
    head, _, rows = text.partition(": ")
    pairs = [parse_integers(row.split("/")) for row in rows.split(" ")]
    if any([pair is None or len(pair) != 2 for pair in pairs]):
        raise ParseError(0)
    recipe = (read_integer(head), tuple([d for d, _ in pairs]), tuple([e for _, e in pairs]))
    if recipe_error(recipe) is not None:
        raise ParseError(0)
    return recipe


def parse_program(text):
    """Return the program that has this text; it may be one of which program_error tells an error."""
    reader = Reader(text)
    return reader.read_program()
