"""The errors of the package; each keeps its argument under the argument's name."""


class ZeroDenominator(ZeroDivisionError):
    """A rational function has the denominator ()."""

    def __init__(self):
        """Take no argument: there is nothing to tell."""


class UndefinedValue(ZeroDivisionError):
    """The denominator of a rational function is 0 at the fraction p."""

    def __init__(self, p):
        self.p = p


class AlreadyEnded(RuntimeError):
    """A runner that is not in a toss state is asked for a toss, after this many tosses."""

    def __init__(self, tosses):
        self.tosses = tosses


class NameInUse(RuntimeError):
    """A coin that these names toss is to be removed."""

    def __init__(self, names):
        self.names = names


class InvalidSide(ValueError):
    """A side of the coin is neither "H" nor "T"."""

    def __init__(self):
        """Take no argument: there is nothing to tell."""


class MayNotTerminate(ValueError):
    """A machine runs forever with positive probability, as the trap shows."""

    def __init__(self, trap):
        self.trap = trap


class InvalidCoin(ValueError):
    """A machine is not a coin machine; the reason is a word."""

    def __init__(self, reason):
        self.reason = reason


class InvalidDefinition(ValueError):
    """The value of a definition is not valid; the reason tells where."""

    def __init__(self, reason):
        self.reason = reason


class CyclicDefinition(ValueError):
    """A coin would toss itself, along these names."""

    def __init__(self, names):
        self.names = names


class UnknownCheckpoint(LookupError):
    """There is no checkpoint of this number."""

    def __init__(self, number):
        self.number = number


class ParseError(LookupError):
    """A text is not valid from the line of this number on."""

    def __init__(self, number):
        self.number = number


class UnknownName(KeyError):
    """There is no coin of this name."""

    def __init__(self, name):
        self.name = name


class LimitExceeded(OverflowError):
    """A value is larger than this limit allows."""

    def __init__(self, limit):
        self.limit = limit


class StepLimitExceeded(OverflowError):
    """A program executes more statements than this limit without a toss in between."""

    def __init__(self, limit):
        self.limit = limit
