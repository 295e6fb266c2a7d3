"""A plain registry for the tests: definitions, records and what invalidates them, by the words of 22 and 23."""

from math import gcd

from bentcoin.errors import LimitExceeded, MayNotTerminate, StepLimitExceeded
from bentcoin.execution import compile_program
from bentcoin.machines import machine_error
from bentcoin.probabilities import answer_probability, expected_tosses, nontermination_probability
from bentcoin.programs import program_error
from bentcoin.rationals import (
    compose_rationals, evaluate_rational, multiply_rationals, reduce_rational, subtract_rationals,
)
from bentcoin.recipes import machine_from_recipe, recipe_error
from bentcoin.substitution import coin_error
from bentcoin.synthesis import synthesize
from tests.machine_helpers import ONE, P, ZERO, surely_ends
from tests.plain_checker import sum_form


class Refused(Exception):
    """A call raises an error: the name of its class and its argument."""


def compiled(kind, value):
    if kind == "machine":
        return value
    try:
        return compile_program(value) if kind == "program" else machine_from_recipe(value)
    except (LimitExceeded, StepLimitExceeded) as error:
        raise Refused(type(error).__name__, error.limit) from None


class PlainRegistry:
    """The definitions and records of a registry; answers are worked out anew each time."""

    def __init__(self):
        self.coins, self.asked, self.broken, self.next = {}, {}, [], 0
        self.saved = []

    def state(self):
        return (dict(self.coins), dict(self.asked), list(self.broken), self.next)

    def below(self, name):
        """Return the name and all names that it tosses, directly or indirectly."""
        found = []
        while name is not None:
            found.append(name)
            name = self.coins[name][3]
        return found

    def define(self, word, kind, value, by):
        if by is not None and by not in self.coins:
            raise Refused("UnknownName", by)
        if by is not None and coin_error(self.coins[by][2]):
            raise Refused("InvalidCoin", coin_error(self.coins[by][2]))
        error = {"machine": machine_error, "program": program_error, "recipe": recipe_error}[kind](value)
        if error is not None:
            raise Refused("InvalidDefinition", error)
        machine = compiled(kind, value)
        if by is not None and word in self.below(by):
            names = self.below(by)
            raise Refused("CyclicDefinition", (word, *names[:names.index(word) + 1]))
        if any(coin[3] == word for coin in self.coins.values()) and coin_error(machine):
            raise Refused("InvalidCoin", coin_error(machine))
        self.touch(word)
        self.coins[word] = (kind, value, machine, by)

    def remove(self, word):
        if word not in self.coins:
            raise Refused("UnknownName", word)
        users = tuple(sorted(name for name, coin in self.coins.items() if coin[3] == word))
        if users:
            raise Refused("NameInUse", users)
        self.touch(word)
        del self.coins[word]

    def touch(self, word):
        for number in list(self.asked):
            question = self.asked[number][0]
            if any(word in self.below(name) for name in names_of(question)):
                del self.asked[number]
                self.broken.append(number)

    def record(self, question):
        answer = self.query(question)
        self.asked[self.next] = (question, answer)
        self.next += 1
        return self.next - 1

    def save_checkpoint(self):
        self.saved.append(self.state())
        return len(self.saved) - 1

    def restore(self, number):
        if number not in range(len(self.saved)):
            raise Refused("UnknownCheckpoint", number)
        del self.saved[number + 1:]
        coins, asked, broken, self.next = self.saved[number]
        self.coins, self.asked, self.broken = dict(coins), dict(asked), list(broken)

    def size(self, name):
        kind, value, machine, _ = self.coins[name]
        return value[0] if kind == "recipe" else sum(state[0] == "toss" for state in machine)

    def query(self, question):
        names = names_of(question)
        for name in names:
            if name not in self.coins:
                raise Refused("UnknownName", name)
        if question[0] == "wish" and names and coin_error(self.coins[names[0]][2]):
            raise Refused("InvalidCoin", coin_error(self.coins[names[0]][2]))
        for name in names:
            for other in self.below(name):
                if self.coins[other][0] != "recipe" and self.size(other) > 12:
                    raise Refused("LimitExceeded", 12)
        for name in names:
            total = 1
            for other in self.below(name):
                total *= self.size(other)
            if total > 60:
                raise Refused("LimitExceeded", 60)
        return self.answer(question, names)

    def answer(self, question, names):
        if question[0] == "chance":
            return self.composed(self.chance(names[0], question[2]), names[0])
        if question[0] == "never":
            kind, _, machine, _ = self.coins[names[0]]
            rational = ZERO if kind == "recipe" else nontermination_probability(machine)[0]
            return self.composed(rational, names[0])
        if question[0] == "mean":
            if not surely_ends(self.coins[names[0]][2]):
                raise Refused("MayNotTerminate", None)
            total = ONE
            for name in self.below(names[0]):
                total = multiply_rationals(total, self.composed(self.mean(name), name))
            return total
        if question[0] == "wish":
            result = synthesize(question[1])
            if result[0] != "recipe":
                return (result, None)
            return (result, compose_rationals(question[1], self.heads(names[0]) if names else P))
        return self.compare(*names)

    def chance(self, name, answer):
        kind, value, machine, _ = self.coins[name]
        if kind != "recipe":
            return answer_probability(machine, answer)[0]
        yes = reduce_rational(*[sum_form(form, value[0]) for form in value[1:]])
        return {1: yes, 0: subtract_rationals(ONE, yes)}.get(answer, ZERO)

    def mean(self, name):
        kind, value, machine, _ = self.coins[name]
        if kind != "recipe":
            return expected_tosses(machine)[0]
        return reduce_rational((value[0],) if value[0] else (), sum_form(value[2], value[0]))

    def heads(self, name):
        return self.composed(self.chance(name, 1), name)

    def composed(self, rational, name):
        """Return what a rational function of the p of the coin that a name tosses is for the biased coin."""
        by = self.coins[name][3]
        return rational if by is None or self.size(name) == 0 else compose_rationals(rational, self.heads(by))

    def compare(self, one, other):
        answers = set()
        for name in (one, other):
            answers |= {state[1] for state in self.coins[name][2] if state[0] == "end"}
        for answer in sorted(answers):
            first = self.composed(self.chance(one, answer), one)
            second = self.composed(self.chance(other, answer), other)
            if first != second:
                for d in range(2, 200):
                    for n in range(1, d):
                        p = (n, d)
                        if gcd(n, d) == 1 and evaluate_rational(first, p) != evaluate_rational(second, p):
                            return (p, answer)
        return None


def names_of(question):
    if question[0] == "wish":
        return [question[2]] if question[2] is not None else []
    return [question[1], question[2]] if question[0] == "alike" else [question[1]]


def refused(error):
    """Return the Refused for an error of the package."""
    argument = None if isinstance(error, MayNotTerminate) else list(vars(error).values())[0]
    return (type(error).__name__, argument)
