"""A console: commands in lines of text, for a registry of its own."""

from bentcoin.errors import ParseError
from bentcoin.formats import format_rational, format_recipe, parse_machine, parse_program
from bentcoin.formats import parse_rational, parse_recipe
from bentcoin.kinds import is_word
from bentcoin.registry import Registry
from bentcoin.texts import read_integer

# What a ParseError tells if the command itself is not valid.
NO_COMMAND = -1


class Console:
    """Executes commands, and keeps a log of them."""

    def __init__(self):
        self.registry = Registry()
        self.events = []

    def execute(self, command):
        """Execute a command and return its answer, a string."""
        # Each command before has come in and gone out.
        number = len(self.events) // 2
        self.events.append((number, "in"))
        try:
            return self.answer(command)
        finally:
            self.events.append((number, "out"))

    def log(self):
        """Return the list of the pairs (number, "in") and (number, "out"), in the order of events."""
        return list(self.events)

    def answer(self, command):
        """Return the answer to a command, which changes the registry if it says so."""
        words = command.split(" ")
        if words[0] == "let":
            return self.define(command)
        if words[0] == "keep":
            return str(self.registry.record(read_question(words[1:])))
        if words[0] in ("drop", "back", "mark", "kept"):
            return self.manage(words)
        question = read_question(words)
        return format_answer(question[0], self.registry.query(question))

    def define(self, command):
        """Execute a "let" command: its first line, and the text of a value."""
        head, end, text = command.partition("\n")
        words = head.split(" ")
        if end == "" or len(words) != 4 or words[3] not in ("machine", "program", "recipe"):
            raise ParseError(NO_COMMAND)
        name = read_name(words[1])
        by = read_name_or_none(words[2])
        self.registry.define(name, words[3], parse_value(words[3], text), by)
        return "ok"

    def manage(self, words):
        """Execute a command that is not a question."""
        if words == ["kept"]:
            return " ".join([str(number) for number in self.registry.records()]) or "none"
        if words == ["mark"]:
            return str(self.registry.save_checkpoint())
        if len(words) != 2 or words[0] not in ("drop", "back"):
            raise ParseError(NO_COMMAND)
        if words[0] == "drop":
            self.registry.remove(read_name(words[1]))
        else:
            self.registry.restore(read_number(words[1]))
        return "ok"


def read_question(words):
    """Return the question that a command of these words asks."""
    word = words[0] if words != [] else ""
    if word in ("never", "mean") and len(words) == 2:
        return (word, read_name(words[1]))
    if word == "chance" and len(words) == 3:
        return (word, read_name(words[1]), read_number(words[2]))
    if word == "alike" and len(words) == 3:
        return (word, read_name(words[1]), read_name(words[2]))
    if word == "wish" and len(words) > 1 and words[1].endswith(":"):
        name = read_name_or_none(words[1].removesuffix(":"))
        return (word, read_rational(" ".join(words[2:])), name)
    raise ParseError(NO_COMMAND)


def read_name(word):
    """Return the word, which is to be a name."""
    if not is_word(word):
        raise ParseError(NO_COMMAND)
    return word


def read_name_or_none(word):
    """Return the word, which is to be a name; None for "-", the biased coin."""
    return None if word == "-" else read_name(word)


def read_number(word):
    """Return the integer, not below 0, that the word is to be."""
    number = read_integer(word)
    if number is None or number < 0:
        raise ParseError(NO_COMMAND)
    return number


def read_rational(text):
    """Return the rational function that the text is to be."""
    try:
        return parse_rational(text)
    except ParseError:
        raise ParseError(NO_COMMAND) from None


def parse_value(kind, text):
    """Return the value of this kind that has the text."""
    if kind == "machine":
        return parse_machine(text)
    return parse_program(text) if kind == "program" else parse_recipe(text)


def format_answer(word, answer):
    """Return the text of the answer to a question that begins with this word."""
    if word == "alike" and answer is None:
        return "alike"
    if word == "alike":
        p, found = answer
        return f"{p[0]}/{p[1]} {found}"
    if word == "wish":
        result = answer[0]
        return f"recipe {format_recipe(result[1])}" if result[0] == "recipe" else result[0]
    return format_rational(answer)
