"""Programs: what is one, and the statements and calls in them that have no meaning."""

from bentcoin.kinds import is_index, is_tuple, is_word

MAX_STATEMENTS = 20
MAX_DEFS = 6

# Blocks in blocks, the outermost one counted, and tuples in tuples of expressions.
MAX_NESTING = 6
MAX_DIGIT = 9

# What follows the word of a statement: B a block, E an expression, W a word.
SHAPES = {
    "toss": "BB",
    "set": "WE",
    "if": "EBB",
    "loop": "B",
    "leave": "",
    "end": "E",
    "call": "W",
}
OPERATIONS = ("plus", "less", "alike", "least")


def program_error(value):
    """Return None if any value is a program, else "form", ("leave", path), ("def", path) or ("ring", word)."""
    if not is_form(value):
        return "form"
    words = [word for word, _ in value[1]]
    for path, statement, looped in list_statements(value):
        if statement[0] == "leave" and not looped:
            return ("leave", path)
        if statement[0] == "call" and statement[1] not in words:
            return ("def", path)
    for word in words:
        if word in find_called(value, word):
            return ("ring", word)
    return None


def is_form(value):
    """Tell whether any value is built as a program is."""
    if not is_tuple(value, 2) or not is_block(value[0], 1):
        return False
    if not isinstance(value[1], tuple) or len(value[1]) > MAX_DEFS:
        return False
    words = []
    for pair in value[1]:
        if not is_tuple(pair, 2) or not is_word(pair[0]) or not is_block(pair[1], 1):
            return False
        if pair[0] in words:
            return False
        words.append(pair[0])
    return True


def is_block(value, depth):
    """Tell whether any value is a block, at this depth of nesting."""
    if depth > MAX_NESTING or not isinstance(value, tuple) or len(value) > MAX_STATEMENTS:
        return False
    return all([is_statement(part, depth) for part in value])


def is_statement(value, depth):
    """Tell whether any value is a statement of a block of this depth."""
    if not isinstance(value, tuple) or value == () or not isinstance(value[0], str):
        return False
    if value[0] not in SHAPES or len(value) != len(SHAPES[value[0]]) + 1:
        return False
    for part, letter in zip(value[1:], SHAPES[value[0]]):
        if not is_part(part, letter, depth):
            return False
    return True


def is_part(value, letter, depth):
    """Tell whether any value is what the letter of a shape stands for."""
    if letter == "B":
        return is_block(value, depth + 1)
    return is_word(value) if letter == "W" else is_expression(value, 1)


def is_expression(value, depth):
    """Tell whether any value is an expression, which is at this depth if it is a tuple."""
    if not isinstance(value, tuple):
        return is_word(value) or is_index(value, MAX_DIGIT + 1)
    if depth > MAX_NESTING or len(value) != 3 or value[0] not in OPERATIONS:
        return False
    return is_expression(value[1], depth + 1) and is_expression(value[2], depth + 1)


def list_statements(program):
    """Return a list of triples (path, statement, whether a loop encloses it) of all statements.

    The main block comes first, then the defs; each statement stands before those within it.
    """
    found = list_in_block(program[0], (-1,), False)
    for index, (_, block) in enumerate(program[1]):
        found.extend(list_in_block(block, (index,), False))
    return found


def list_in_block(block, path, looped):
    """Return the triples of list_statements for the block at a path."""
    found = []
    for at, statement in enumerate(block):
        place = (*path, at)
        found.append((place, statement, looped))
        inside = looped or statement[0] == "loop"
        for element in block_indices(statement):
            found.extend(list_in_block(statement[element], (*place, element), inside))
    return found


def block_indices(statement):
    """Return the list of the indices at which a statement has blocks."""
    return [at + 1 for at, letter in enumerate(SHAPES[statement[0]]) if letter == "B"]


def find_called(program, word):
    """Return the list of the words that this def calls, directly or indirectly."""
    direct = {name: called_words(block) for name, block in program[1]}
    found = list(direct[word])
    # The list grows while it is read.
    at = 0
    while at < len(found):
        found.extend([name for name in direct[found[at]] if name not in found])
        at += 1
    return found


def called_words(block):
    """Return the list of the words that a block calls."""
    statements = [statement for _, statement, _ in list_in_block(block, (), False)]
    return [statement[1] for statement in statements if statement[0] == "call"]
