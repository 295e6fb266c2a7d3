"""Texts of values, and which line is wrong, by the words of promise 24; for the tests of the formats."""

import ast
import re

from bentcoin.programs import program_error
from bentcoin.recipes import recipe_error
from tests.helpers import plain_reduce

NUMBER = r"(?:0|-?[1-9][0-9]*)"
STATE = re.compile(r"toss (0|[1-5]?[0-9]) (0|[1-5]?[0-9])|end (0|[1-9]?[0-9])|never")


def plain_polynomial(polynomial):
    return " ".join(map(str, polynomial)) or "0"


def plain_rational(rational):
    return f"{plain_polynomial(rational[0])} / {plain_polynomial(rational[1])}"


def plain_machine(machine):
    return "".join(" ".join(map(str, state)) + "\n" for state in machine)


def plain_recipe(recipe):
    return f"{recipe[0]}: " + " ".join(f"{d}/{e}" for d, e in zip(*recipe[1:]))


def plain_expression(value):
    return f"{value[0]}({','.join(map(plain_expression, value[1:]))})" if isinstance(value, tuple) else str(value)


def plain_program(program):
    lines = list(plain_block(program[0]))
    for word, block in program[1]:
        lines += [f"def {word}", *indented(plain_block(block))]
    return "".join(line + "\n" for line in lines)


def indented(lines):
    return ["  " + line for line in lines]


def plain_block(block):
    for statement in block:
        word = statement[0]
        if word == "toss":
            yield "toss"
            for side, part in zip(("heads", "tails"), statement[1:]):
                if part:
                    yield from (side, *indented(plain_block(part)))
        elif word == "if":
            yield from (f"if {plain_expression(statement[1])}", *indented(plain_block(statement[2])))
            if statement[3]:
                yield from ("else", *indented(plain_block(statement[3])))
        elif word == "loop":
            yield from ("loop", *indented(plain_block(statement[1])))
        else:
            yield " ".join([word, *map(plain_expression, statement[1:])])


def read_rational(text):
    """Return the rational function that has exactly this text; None if there is none."""
    found = re.fullmatch(f"({NUMBER}(?: {NUMBER})*) / ({NUMBER}(?: {NUMBER})*)", text)
    if not found:
        return None
    parts = [tuple(map(int, part.split(" "))) for part in found.groups()]
    parts = [() if part == (0,) else part for part in parts]
    if any(part and part[-1] == 0 for part in parts) or not parts[1]:
        return None
    return tuple(parts) if plain_reduce(*parts) == tuple(parts) else None


def read_recipe(text):
    found = re.fullmatch(f"({NUMBER}):((?: {NUMBER}/{NUMBER})+)", text)
    if not found:
        return None
    pairs = [tuple(map(int, row.split("/"))) for row in found.group(2).split(" ")[1:]]
    recipe = (int(found.group(1)), tuple(d for d, _ in pairs), tuple(e for _, e in pairs))
    return recipe if recipe_error(recipe) is None else None


def read_machine(text):
    lines = text.split("\n")
    if lines.pop() != "" or not 1 <= len(lines) <= 60:
        return None
    machine = []
    for line in lines:
        if not STATE.fullmatch(line):
            return None
        word, *numbers = line.split(" ")
        if word == "toss" and max(map(int, numbers)) >= len(lines):
            return None
        machine.append((word, *map(int, numbers)))
    return tuple(machine)


def read_expression(text):
    """Return the expression that Python reads in a text; whether it is written so is looked at later."""
    try:
        return convert(ast.parse(text, mode="eval").body)
    except (SyntaxError, ValueError, RecursionError, MemoryError):
        return None


def convert(node):
    if isinstance(node, ast.Constant) and type(node.value) is int:
        return node.value
    if isinstance(node, ast.Name):
        return node.id
    if isinstance(node, ast.Call) and isinstance(node.func, ast.Name) and not node.keywords:
        return (node.func.id, *map(convert, node.args))
    return None


def read_program(text):
    """Return the program that has exactly this text; None if there is none.

    The lines are made to a tree by their indentation, leniently; the program of it is then to
    have this text again, and to be a program but for its leaves, calls and rings.
    """
    lines = text.split("\n")
    if lines.pop() != "":
        return None
    nodes = make_tree([((len(line) - len(line.lstrip(" "))) // 2, line.strip(" ")) for line in lines])
    heads = [k for k, (line, _) in enumerate(nodes) if line.startswith("def ")]
    first = heads[0] if heads else len(nodes)
    defs = tuple((line[4:], make_block(inner)) for line, inner in nodes[first:])
    program = (make_block(nodes[:first]), defs)
    return program if program_error(program) != "form" and plain_program(program) == text else None


def make_tree(lines):
    """Return a list of pairs (line, nodes below it)."""
    nodes = []
    while lines:
        depth, line = lines[0]
        size = 1
        while size < len(lines) and lines[size][0] > depth:
            size += 1
        nodes.append((line, make_tree(lines[1:size])))
        lines = lines[size:]
    return nodes


def make_block(nodes):
    """Return a block of the nodes, None where one is no statement."""
    statements = []
    k = 0
    while k < len(nodes):
        line, inner = nodes[k]
        k += 1
        branches = []
        for word in {"toss": ("heads", "tails"), "if": ("else",)}.get(line.split(" ")[0], ()):
            branches.append(())
            if k < len(nodes) and nodes[k][0] == word:
                branches[-1] = make_block(nodes[k][1])
                k += 1
        words = line.split(" ")
        if words[0] == "if":
            branches.insert(0, make_block(inner))
        if words[0] == "loop":
            branches.append(make_block(inner))
        parts = words[1:] if words[0] == "call" else [read_expression(word) for word in words[1:]]
        statements.append((words[0], *parts, *branches))
    return tuple(statements)


def wrong_line_of_machine(text):
    """Return the number that a ParseError tells, or None for the text of a machine."""
    lines = text.split("\n")
    end = lines.pop()
    for k, line in enumerate(lines):
        if k >= 60 or not STATE.fullmatch(line):
            return k
    if end == "" and read_machine(text) is not None:
        return None
    return len(lines)


def wrong_line_of_program(text):
    """Return the number that a ParseError tells, or None for the text of a program."""
    lines = text.split("\n")
    end = lines.pop()
    before = ""
    for k, line in enumerate(lines):
        before += line + "\n"
        more = before + " " * (len(line) - len(line.lstrip(" ")) + 2) + "leave\n"
        if read_program(before) is None and read_program(more) is None:
            return k
    return None if end == "" and read_program(text) is not None else len(lines)
