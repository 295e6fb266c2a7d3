"""The way of a program from toss to toss, statement by statement."""

from bentcoin.errors import StepLimitExceeded
from bentcoin.programs import MAX_DIGIT, list_statements


class Walker:
    """The walks through one program.

    A walk leads to a state that a machine would have there, ("end", answer) or ("never",), or to
    a position at a toss: the path of the statement, the paths of all calls that have not
    returned, and the values of the variables. A place, between two statements, is a triple: the
    path of the next statement, None behind the main block; the paths of the calls; and 1 if a
    loop's round begins again with that statement, else 0.
    """

    def __init__(self, program, limit):
        self.program = program
        # So many steps are allowed without a toss in between.
        self.limit = limit
        assigned = [statement[1] for _, statement, _ in list_statements(program) if statement[0] == "set"]
        # All other variables stay 0.
        self.variables = sorted(set(assigned))

    def start(self):
        """Return where the program is without a toss."""
        return self.walk(self.enter((-1,), ()), (0,) * len(self.variables))

    def follow(self, position, side):
        """Return where a toss leads to from a position."""
        path, calls, values = position
        return self.walk(self.enter((*path, 1 if side == "H" else 2), calls), values)

    def walk(self, place, values):
        """Return where the program is when it is at a toss, has ended, or is where it was before."""
        seen = set()
        steps = 0
        while True:
            path, calls, begun = place
            if path is None:
                return ("end", 0)
            position = (path, calls, values)
            if position in seen:
                return ("never",)
            seen.add(position)
            statement = self.statement_at(path)
            steps += begun + (0 if statement[0] == "toss" else 1)
            if steps > self.limit:
                raise StepLimitExceeded(self.limit)
            if statement[0] == "toss":
                return position
            if statement[0] == "end":
                return ("end", self.evaluate(statement[1], values))
            place = self.next_place(statement, path, calls, values)
            if statement[0] == "set":
                values = self.assign(statement, values)

    def next_place(self, statement, path, calls, values):
        """Return the place behind a statement that neither tosses nor ends the program."""
        if statement[0] == "if":
            return self.enter((*path, 2 if self.evaluate(statement[1], values) != 0 else 3), calls)
        if statement[0] == "loop":
            # A loop without a statement stands for the first one itself.
            return ((*path, 1, 0), calls, 0) if statement[1] != () else (path, calls, 1)
        if statement[0] == "leave":
            return self.leave_loop(path, calls)
        if statement[0] == "call":
            words = [word for word, _ in self.program[1]]
            return self.enter((words.index(statement[1]),), (*calls, path))
        return self.go_behind(path, calls)

    def enter(self, path, calls):
        """Return the place at the begin of the block at this path; behind it if it is empty."""
        if self.block_at(path) != ():
            return ((*path, 0), calls, 0)
        return self.leave_block(path, calls)

    def go_behind(self, path, calls):
        """Return the place behind the statement at this path."""
        if path[-1] + 1 < len(self.block_at(path[:-1])):
            return ((*path[:-1], path[-1] + 1), calls, 0)
        return self.leave_block(path[:-1], calls)

    def leave_block(self, path, calls):
        """Return the place behind the last statement of the block at this path."""
        if len(path) > 1:
            if self.statement_at(path[:-1])[0] == "loop":
                return ((*path, 0), calls, 1)
            return self.go_behind(path[:-1], calls)
        if calls == ():
            return (None, (), 0)
        return self.go_behind(calls[-1], calls[:-1])

    def leave_loop(self, path, calls):
        """Return the place behind the nearest loop around the statement at this path."""
        while True:
            path = path[:-2]
            if self.statement_at(path)[0] == "loop":
                return self.go_behind(path, calls)

    def block_at(self, path):
        """Return the block at a path: that of a statement, and which element of it the block is."""
        if len(path) > 1:
            return self.statement_at(path[:-1])[path[-1]]
        return self.program[0] if path[0] == -1 else self.program[1][path[0]][1]

    def statement_at(self, path):
        """Return the statement at a path."""
        return self.block_at(path[:-1])[path[-1]]

    def assign(self, statement, values):
        """Return the values of the variables after a "set" statement."""
        changed = list(values)
        changed[self.variables.index(statement[1])] = self.evaluate(statement[2], values)
        return tuple(changed)

    def evaluate(self, expression, values):
        """Return the value of an expression."""
        if isinstance(expression, int):
            return expression
        if isinstance(expression, str):
            return values[self.variables.index(expression)] if expression in self.variables else 0
        one = self.evaluate(expression[1], values)
        other = self.evaluate(expression[2], values)
        return apply_operation(expression[0], one, other)


def apply_operation(word, one, other):
    """Return what an operation makes of two values."""
    if word == "plus":
        return min(MAX_DIGIT, one + other)
    if word == "less":
        return max(0, one - other)
    if word == "alike":
        return 1 if one == other else 0
    return min(one, other)
