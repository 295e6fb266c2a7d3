"""Texts in lines: how integers, expressions and blocks of statements are written and read."""

from bentcoin.errors import ParseError
from bentcoin.kinds import is_index, is_word
from bentcoin.programs import MAX_DEFS, MAX_DIGIT, MAX_NESTING, MAX_STATEMENTS, OPERATIONS

# Stands for a last line without a line end: no text with this line is valid.
CUT_LINE = "?"
INDENT = "  "


def read_integer(text):
    """Return the integer that is written so; None if none is."""
    try:
        number = int(text)
    except ValueError:
        return None
    return number if str(number) == text else None


def split_lines(text):
    """Return the list of the lines of a text."""
    lines = text.split("\n")
    last = lines.pop()
    return lines if last == "" else [*lines, CUT_LINE]


def write_expression(expression):
    """Return the text of an expression."""
    if not isinstance(expression, tuple):
        return str(expression)
    word, one, other = expression
    return f"{word}({write_expression(one)},{write_expression(other)})"


def read_expression(text):
    """Return the expression that is written so; None if none is."""
    found = read_part(text, 0, 1)
    return found[0] if found is not None and found[1] == len(text) else None


def read_part(text, start, depth):
    """Return the expression that begins at an index, and the index behind it; None if none begins.

    It is at this depth if it is a tuple.
    """
    end = start
    while end < len(text) and text[end] not in "(,)":
        end += 1
    word = text[start:end]
    if not text.startswith("(", end):
        number = read_integer(word)
        if number is None:
            return (word, end) if is_word(word) else None
        return (number, end) if is_index(number, MAX_DIGIT + 1) else None
    if word not in OPERATIONS or depth > MAX_NESTING:
        return None
    one = read_part(text, end + 1, depth + 1)
    if one is None or not text.startswith(",", one[1]):
        return None
    other = read_part(text, one[1] + 1, depth + 1)
    if other is None or not text.startswith(")", other[1]):
        return None
    return ((word, one[0], other[0]), other[1] + 1)


def write_block(block, level):
    """Return the list of the lines of a block that is indented by so many levels."""
    lines = []
    for statement in block:
        lines.extend(write_statement(statement, level))
    return lines


def write_statement(statement, level):
    """Return the list of the lines of a statement."""
    word = statement[0]
    margin = INDENT * level
    if word == "toss":
        heads = write_branch("heads", statement[1], level)
        return [margin + word, *heads, *write_branch("tails", statement[2], level)]
    if word == "loop":
        return [margin + word, *write_block(statement[1], level + 1)]
    if word == "if":
        first = write_block(statement[2], level + 1)
        head = f"{margin}if {write_expression(statement[1])}"
        return [head, *first, *write_branch("else", statement[3], level)]
    # A word of a def or a variable is written as the expression that it is, too.
    parts = [write_expression(part) for part in statement[1:]]
    return [margin + " ".join([word, *parts])]


def write_branch(word, block, level):
    """Return the list of the lines of a block that a word introduces; none if it is empty."""
    return [] if block == () else [INDENT * level + word, *write_block(block, level + 1)]


class Reader:
    """Reads the lines of a program, one after the other."""

    def __init__(self, text):
        self.lines = split_lines(text)
        # The number of lines read.
        self.at = 0

    def words(self, level):
        """Return the words of the next line; none if it is not indented by so many levels."""
        margin = INDENT * level
        if self.at == len(self.lines) or not self.lines[self.at].startswith(margin):
            return []
        return self.lines[self.at].removeprefix(margin).split(" ")

    def read_program(self):
        """Read all lines and return the program; raise ParseError where no program goes on so."""
        block = self.read_block(0, 1)
        defs = []
        while len(defs) < MAX_DEFS and self.begins_def([word for word, _ in defs]):
            word = self.words(0)[1]
            self.at += 1
            defs.append((word, self.read_block(1, 1)))
        if self.at < len(self.lines):
            raise ParseError(self.at)
        return (block, tuple(defs))

    def begins_def(self, taken):
        """Tell whether the next line begins a def of a word that is not taken."""
        words = self.words(0)
        return len(words) == 2 and words[0] == "def" and is_word(words[1]) and words[1] not in taken

    def read_block(self, level, depth):
        """Read the statements of a block of this depth of nesting, and return the block."""
        statements = []
        while len(statements) < MAX_STATEMENTS:
            statement = self.read_statement(level, depth)
            if statement is None:
                break
            statements.append(statement)
        return tuple(statements)

    def read_statement(self, level, depth):
        """Read a statement and return it; None if the next line begins none."""
        words = self.words(level)
        statement = read_simple(words)
        if statement is not None:
            self.at += 1
            return statement
        if depth == MAX_NESTING:
            return None
        if words == ["toss"]:
            self.at += 1
            heads = self.read_branch("heads", level, depth)
            return ("toss", heads, self.read_branch("tails", level, depth))
        if words == ["loop"]:
            self.at += 1
            return ("loop", self.read_block(level + 1, depth + 1))
        test = read_expression(words[1]) if len(words) == 2 and words[0] == "if" else None
        if test is None:
            return None
        self.at += 1
        first = self.read_block(level + 1, depth + 1)
        return ("if", test, first, self.read_branch("else", level, depth))

    def read_branch(self, word, level, depth):
        """Read the block that the word introduces, and return it; () if the word is not there."""
        if self.words(level) != [word]:
            return ()
        self.at += 1
        block = self.read_block(level + 1, depth + 1)
        if block == ():
            raise ParseError(self.at)
        return block


def read_simple(words):
    """Return the statement without blocks that a line of these words is; None if it is none."""
    if words == ["leave"]:
        return ("leave",)
    if len(words) == 2 and words[0] == "call" and is_word(words[1]):
        return ("call", words[1])
    if len(words) == 2 and words[0] == "end":
        answer = read_expression(words[1])
        return None if answer is None else ("end", answer)
    if len(words) == 3 and words[0] == "set" and is_word(words[1]):
        value = read_expression(words[2])
        return None if value is None else ("set", words[1], value)
    return None
