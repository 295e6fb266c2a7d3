"""A runner feeds a machine one toss at a time, and can go back."""

from bentcoin.errors import AlreadyEnded, InvalidSide, UnknownCheckpoint
from bentcoin.kinds import is_index
from bentcoin.machines import is_toss, next_state


class Runner:
    """A run of one machine, from state 0."""

    def __init__(self, machine):
        self.machine = machine
        self.sides = []
        # The states before each toss made, and the one after the last.
        self.states = [0]

    def __len__(self):
        """Return the number of tosses made."""
        return len(self.sides)

    def toss(self, side):
        """Make one toss, "H" or "T", and return the new position."""
        index = self.states[-1]
        if not is_toss(self.machine[index]):
            raise AlreadyEnded(len(self.sides))
        if side not in ("H", "T"):
            raise InvalidSide()
        self.sides.append(side)
        self.states.append(next_state(self.machine, index, side))
        return self.position()

    def position(self):
        """Return ("ended", answer), ("never",) or ("going", state)."""
        index = self.states[-1]
        state = self.machine[index]
        if is_toss(state):
            return ("going", index)
        return ("never",) if state[0] == "never" else ("ended", state[1])

    def tape(self):
        """Return the tosses made, a tape."""
        return "".join(self.sides)

    def checkpoint(self):
        """Return the number of tosses made."""
        return len(self.sides)

    def rewind(self, number):
        """Go back to the state after this number of tosses."""
        if not is_index(number, len(self.states)):
            raise UnknownCheckpoint(number)
        del self.sides[number:]
        del self.states[number + 1:]
