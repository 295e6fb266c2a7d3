"""Promises 22, 23 and 3: coins by names, questions, records, checkpoints."""

import unittest
from fractions import Fraction

from bentcoin.checker import check_claim
from bentcoin.equivalence import compare_machines
from bentcoin.errors import (
    CyclicDefinition, InvalidCoin, InvalidDefinition, LimitExceeded, MayNotTerminate, NameInUse,
    StepLimitExceeded, UnknownCheckpoint, UnknownName,
)
from bentcoin.execution import compile_program
from bentcoin.probabilities import answer_probability, expected_tosses, nontermination_probability
from bentcoin.rationals import compose_rationals, evaluate_rational
from bentcoin.recipes import machine_from_recipe
from bentcoin.registry import MAX_DEGREE, Registry
from bentcoin.substitution import coin_error, substitute_coin
from bentcoin.synthesis import synthesize
from tests.changes import ANY
from tests.helpers import make_generator
from tests.machine_helpers import (
    COIN, ENDED, FAIR, HALF_TRAP, LOOP, MIXED, NEVER, TWICE, make_chain, random_machine, surely_ends,
)
from tests.program_helpers import CALLS, FAIR_PROGRAM, NEVER_AT_ONCE, PROGRAMS, TOSS_ONCE, straight_line
from tests.registry_helpers import PlainRegistry, Refused, refused

HALF = ((1,), (2,))
P = ((0, 1), (1,))
SWAPPED = (("toss", 2, 1), ("end", 1), ("end", 0))
SQUARE = (("toss", 1, 3), ("toss", 2, 3), ("end", 1), ("end", 0))
RECIPE = (2, (0, 1, 0), (0, 2, 0))
MANY_STEPS = (straight_line(300, (("end", 1),)), ())
MANY_STATES = (
    (("loop", (("set", "x", ("plus", "x", 1)), ("loop", (
        ("toss", (), ()), ("set", "y", ("plus", "y", 1)), ("if", ("alike", "y", 9), (("set", "y", 0), ("leave",)), ()),
    )))),), (),
)


def coin_of(tosses, unreached=0):
    """Return a coin machine of so many reachable toss states and so many more."""
    size = tosses + unreached
    chain = [("toss", min(k + 1, tosses - 1), size + 1) for k in range(tosses - 1)]
    return (*chain, ("toss", size, size + 1), *[("toss", 0, 0)] * unreached, ("end", 1), ("end", 0))


def positions_of(count):
    """Return a program that is a coin, with so many positions at a toss."""
    step = ("toss", (), (("end", 0),))
    full, rest = divmod(count, 2)
    return (((("call", "two"),) * full + (step,) * rest + (("end", 1),)), (("two", (step, step)),))


def make_registry(*coins):
    """Return a registry of these coins: (name, kind, value, by)."""
    registry = Registry()
    for coin in coins:
        registry.define(*coin)
    return registry


class Checked(unittest.TestCase):

    def assert_raises(self, error, argument, call, *arguments):
        with self.assertRaises(error) as held:
            call(*arguments)
        self.assertIs(type(held.exception), error)
        self.assertEqual(list(vars(held.exception).values()), [argument])


class Definitions(Checked):

    def test_examples(self):
        self.assert_raises(UnknownName, "fair", Registry().define, "copy", "machine", COIN, "fair")
        registry = make_registry(("a", "machine", COIN, None), ("b", "machine", COIN, "a"))
        self.assert_raises(NameInUse, ("b",), registry.remove, "a")
        registry = make_registry(("b", "machine", COIN, None), ("a", "machine", COIN, None))
        self.assertEqual(registry.list_names(), ["a", "b"])
        self.assertEqual(MAX_DEGREE, 60)

    def test_names(self):
        registry = Registry()
        self.assertEqual((len(registry), registry.list_names()), (0, []))
        for k, (word, kind, value) in enumerate((
            ("z", "machine", COIN), ("abcdef", "recipe", RECIPE), ("toss", "program", TOSS_ONCE), ("a", "machine", NEVER),
        )):
            self.assertIsNone(registry.define(word, kind, value, None))
            self.assertEqual(len(registry), k + 1)
        self.assertEqual(registry.list_names(), ["a", "abcdef", "toss", "z"])
        registry.define("z", "machine", ENDED, None)
        self.assertEqual((len(registry), registry.list_names()), (4, ["a", "abcdef", "toss", "z"]))
        self.assertIsNone(registry.remove("abcdef"))
        self.assertEqual((len(registry), registry.list_names()), (3, ["a", "toss", "z"]))

    def test_names_of_arguments(self):
        registry = Registry()
        registry.define(by=None, value=COIN, kind="machine", word="a")
        registry.define("b", by="a", value=FAIR, kind="machine")
        self.assertEqual(registry.query(question=("chance", "b", 1)), HALF)
        self.assertEqual(registry.record(question=("never", "b")), 0)
        registry.save_checkpoint()
        registry.remove(word="b")
        registry.restore(number=0)
        self.assertEqual(registry.list_names(), ["a", "b"])

    def test_each_kind_that_is_not_valid(self):
        for kind, value, reason in (
            ("machine", (), (-1, "form")), ("machine", (("toss", 0, 2), ("end", 1)), (0, "place")),
            ("machine", (("end", 100),), (0, "answer")), ("machine", [("end", 1)], (-1, "form")),
            ("machine", RECIPE, (0, "form")), ("machine", TOSS_ONCE, (0, "form")),
            ("program", (), "form"), ("program", COIN, "form"), ("program", ((("leave",),), ()), ("leave", (-1, 0))),
            ("program", ((("call", "d"),), ()), ("def", (-1, 0))),
            ("program", ((), (("d", (("call", "d"),)),)), ("ring", "d")),
            ("recipe", (), "form"), ("recipe", (41, (), ()), "form"), ("recipe", (1, (0, 0), (0, 0)), "few"),
            ("recipe", (1, (1, 1), (1, 2)), ("row", 1)), ("recipe", COIN, "form"),
        ):
            registry = make_registry(("a", "machine", FAIR, None))
            for by in (None, "a"):
                self.assert_raises(InvalidDefinition, reason, registry.define, "b", kind, value, by)
                self.assert_raises(InvalidDefinition, reason, registry.define, "a", kind, value, by)
            self.assertEqual(registry.list_names(), ["a"])
            self.assertEqual(registry.query(("chance", "a", 1)), HALF)

    def test_any_value(self):
        registry = Registry()
        for value in ANY:
            for kind in ("machine", "program", "recipe"):
                with self.assertRaises(InvalidDefinition):
                    registry.define("a", kind, value, None)
        self.assertEqual(len(registry), 0)

    def test_what_makes_no_machine(self):
        registry = make_registry(("a", "machine", FAIR, None))
        long_recipe = (6, (0,) * 7, (1,) * 7)
        for kind, value, error, limit in (
            ("recipe", long_recipe, LimitExceeded, 5), ("program", MANY_STATES, LimitExceeded, 48),
            ("program", MANY_STEPS, StepLimitExceeded, 300),
        ):
            for word, by in (("b", None), ("b", "a"), ("a", "a")):
                self.assert_raises(error, limit, registry.define, word, kind, value, by)
        self.assertEqual(registry.list_names(), ["a"])

    def test_order_of_errors(self):
        registry = make_registry(
            ("fair", "machine", FAIR, None), ("mid", "machine", COIN, "fair"), ("top", "machine", COIN, "mid"),
            ("trap", "machine", HALF_TRAP, None), ("other", "machine", TWICE, None), ("one", "machine", (("end", 1),), None),
        )
        wrong, unruly = ("end", 1), MANY_STEPS
        # The tossed name is not known, or no coin machine; the value may be wrong, too.
        self.assert_raises(UnknownName, "no", registry.define, "mid", "machine", wrong, "no")
        self.assert_raises(UnknownName, "b", registry.define, "b", "machine", COIN, "b")
        for name, reason in (("trap", "ends"), ("other", "answers"), ("one", "sure")):
            self.assert_raises(InvalidCoin, reason, registry.define, "x", "machine", wrong, name)
            self.assert_raises(InvalidCoin, reason, registry.define, name, "machine", wrong, name)
            self.assert_raises(InvalidCoin, reason, registry.define, "x", "program", unruly, name)
        # The value is not valid, and makes a ring, and is tossed.
        self.assert_raises(InvalidDefinition, (0, "form"), registry.define, "mid", "machine", wrong, "top")
        self.assert_raises(InvalidDefinition, "few", registry.define, "fair", "recipe", (0, (0,), (0,)), "fair")
        # It makes no machine, and makes a ring, and is tossed.
        self.assert_raises(StepLimitExceeded, 300, registry.define, "mid", "program", unruly, "top")
        self.assert_raises(LimitExceeded, 5, registry.define, "fair", "recipe", (6, (0,) * 7, (1,) * 7), "top")
        # It makes a ring, and is tossed but no coin machine.
        self.assert_raises(CyclicDefinition, ("mid", "top", "mid"), registry.define, "mid", "machine", TWICE, "top")
        self.assert_raises(CyclicDefinition, ("fair", "fair"), registry.define, "fair", "machine", NEVER, "fair")
        # It is tossed but no coin machine.
        self.assert_raises(InvalidCoin, "answers", registry.define, "mid", "machine", TWICE, None)
        self.assert_raises(InvalidCoin, "ends", registry.define, "fair", "program", NEVER_AT_ONCE, None)
        self.assert_raises(InvalidCoin, "sure", registry.define, "fair", "recipe", (0, (1,), (1,)), None)
        self.assert_raises(InvalidCoin, "ends", registry.define, "mid", "machine", HALF_TRAP, "fair")
        self.assertEqual(registry.list_names(), ["fair", "mid", "one", "other", "top", "trap"])

    def test_rings(self):
        registry = make_registry(
            ("a", "machine", COIN, None), ("b", "machine", COIN, "a"), ("c", "machine", COIN, "b"), ("d", "machine", COIN, "c"),
        )
        for word, by, names in (
            ("a", "a", ("a", "a")), ("a", "b", ("a", "b", "a")), ("a", "c", ("a", "c", "b", "a")),
            ("a", "d", ("a", "d", "c", "b", "a")), ("b", "d", ("b", "d", "c", "b")), ("c", "c", ("c", "c")),
            ("d", "d", ("d", "d")),
        ):
            self.assert_raises(CyclicDefinition, names, registry.define, word, "machine", FAIR, by)
        for word, by in (("a", None), ("d", "a"), ("d", "b"), ("c", "a"), ("b", None), ("d", "c")):
            self.assertIsNone(registry.define(word, "machine", COIN, by))
        # Now c tosses a, no longer b: a ring of other names may be made.
        self.assertIsNone(registry.define("b", "machine", COIN, "d"))
        self.assert_raises(CyclicDefinition, ("a", "b", "d", "c", "a"), registry.define, "a", "machine", COIN, "b")

    def test_coins_that_are_tossed(self):
        registry = make_registry(("a", "machine", COIN, None), ("b", "machine", COIN, "a"))
        for kind, value in (("machine", FAIR), ("program", FAIR_PROGRAM), ("recipe", RECIPE), ("machine", SWAPPED)):
            self.assertIsNone(registry.define("a", kind, value, None))
        for kind, value, reason in (
            ("machine", LOOP, "ends"), ("machine", ENDED, "answers"), ("machine", (("end", 0),), "sure"),
            ("program", TOSS_ONCE, "sure"), ("recipe", (2, (0, 2, 0), (0, 2, 0)), "sure"), ("program", CALLS, "answers"),
        ):
            self.assert_raises(InvalidCoin, reason, registry.define, "a", kind, value, None)
            self.assertEqual(registry.query(("chance", "b", 1)), ((1, -1), (1,)))
            # Nothing tosses these names.
            self.assertIsNone(registry.define("b", kind, value, None))
            self.assertIsNone(registry.define("c", kind, value, None))
            registry.define("b", "machine", COIN, "a")

    def test_remove(self):
        registry = make_registry(
            ("a", "machine", COIN, None), ("d", "machine", COIN, "a"), ("b", "machine", COIN, "a"),
            ("c", "machine", COIN, "b"),
        )
        self.assert_raises(UnknownName, "no", registry.remove, "no")
        self.assert_raises(NameInUse, ("b", "d"), registry.remove, "a")
        self.assert_raises(NameInUse, ("c",), registry.remove, "b")
        self.assertIsNone(registry.remove("c"))
        self.assertIsNone(registry.remove("b"))
        self.assert_raises(NameInUse, ("d",), registry.remove, "a")
        self.assert_raises(UnknownName, "b", registry.remove, "b")
        registry.define("d", "machine", COIN, None)
        self.assertIsNone(registry.remove("a"))
        self.assertEqual(registry.list_names(), ["d"])


class Questions(Checked):

    def test_example(self):
        registry = make_registry(("fair", "machine", FAIR, None), ("copy", "machine", COIN, "fair"))
        self.assertEqual(registry.query(("chance", "copy", 1)), HALF)
        self.assertEqual(registry.query(("mean", "copy")), ((1,), (0, 1, -1)))

    def test_one_coin(self):
        for kind, value in (
            *[("machine", machine) for machine in (COIN, FAIR, ENDED, NEVER, LOOP, HALF_TRAP, MIXED, TWICE)],
            *[("program", program) for program in PROGRAMS],
            *[("recipe", recipe) for recipe in (RECIPE, (0, (1,), (1,)), (3, (0, 2, 0, 1), (1, 3, 0, 1)))],
        ):
            registry = make_registry(("x", kind, value, None))
            machine = value
            if kind != "machine":
                machine = compile_program(value) if kind == "program" else machine_from_recipe(value)
            for answer in (0, 1, 2, 3, 5, 7, 98):
                self.assertEqual(registry.query(("chance", "x", answer)), answer_probability(machine, answer)[0])
            self.assertEqual(registry.query(("never", "x")), nontermination_probability(machine)[0])
            if surely_ends(machine):
                self.assertEqual(registry.query(("mean", "x")), expected_tosses(machine)[0])

    def test_recipes_of_five_tosses(self):
        # Their machines have 31 toss states, far more than a machine in a question may have.
        recipe = (5, (0, 3, 7, 1, 5, 0), (1, 4, 7, 8, 5, 0))
        registry = make_registry(("r", "recipe", recipe, None), ("x", "machine", FAIR, "r"))
        yes = registry.query(("chance", "r", 1))
        self.assertTrue(check_claim(("recipe", yes, recipe), ()))
        self.assertEqual(registry.query(("never", "r")), ((), (1,)))
        self.assertEqual(registry.query(("chance", "r", 2)), ((), (1,)))
        self.assertEqual(registry.query(("chance", "x", 1)), HALF)
        for p in (Fraction(1, 3), Fraction(4, 5)):
            decided = sum(e * p ** k * (1 - p) ** (5 - k) for k, e in enumerate(recipe[2]))
            chance = Fraction(*evaluate_rational(yes, (p.numerator, p.denominator)))
            self.assertEqual(Fraction(*evaluate_rational(registry.query(("mean", "r")), (p.numerator, p.denominator))), 5 / decided)
            mean = Fraction(*evaluate_rational(registry.query(("mean", "x")), (p.numerator, p.denominator)))
            self.assertEqual(mean, 5 / decided / (chance * (1 - chance)))
            self.assertEqual(Fraction(*evaluate_rational(registry.query(("chance", "r", 0)), (p.numerator, p.denominator))), 1 - chance)

    def test_against_substituted_machines(self):
        generator = make_generator(951)
        coins = [COIN, SWAPPED, FAIR, SQUARE, machine_from_recipe(RECIPE), compile_program(FAIR_PROGRAM)]
        checked = 0
        for _ in range(150):
            chain = [generator.choice(coins) for _ in range(generator.randint(1, 3))]
            top = random_machine(generator, generator.randint(1, 6))
            whole = top
            for coin in chain:
                whole = substitute_coin(whole, coin) if len(whole) * len(coin) < 200 else None
                if whole is None or sum(state[0] == "toss" for state in whole) > 12:
                    whole = None
                    break
            if whole is None or sum(state[0] == "toss" for state in top) > 12:
                continue
            checked += 1
            registry = Registry()
            by = None
            for k, coin in enumerate(reversed(chain)):
                registry.define("abc"[k], "machine", coin, by)
                by = "abc"[k]
            registry.define("top", "machine", top, by)
            self.check_whole(registry, whole)
        self.assertGreater(checked, 80)

    def check_whole(self, registry, whole):
        """Check the coin "top" against a machine that does all that it and the coins do."""
        for answer in (0, 1, 2):
            rational, certificate = answer_probability(whole, answer)
            self.assertEqual(registry.query(("chance", "top", answer)), rational)
            self.assertTrue(check_claim(("chance", whole, answer, registry.query(("chance", "top", answer))), certificate))
        rational, certificate = nontermination_probability(whole)
        self.assertEqual(registry.query(("never", "top")), rational)
        self.assertTrue(check_claim(("never", whole, registry.query(("never", "top"))), certificate))
        if surely_ends(whole):
            rational, certificate = expected_tosses(whole)
            self.assertEqual(registry.query(("mean", "top")), rational)
            self.assertTrue(check_claim(("mean", whole, registry.query(("mean", "top"))), certificate))
        registry.define("whole", "machine", whole, None)
        self.assertIsNone(registry.query(("alike", "top", "whole")))
        result = compare_machines(whole, COIN)
        registry.define("other", "machine", COIN, None)
        due = None if result[0] == "alike" else result[1:3]
        self.assertEqual(registry.query(("alike", "top", "other")), due)

    def test_replaced_coins_are_tossed_from_then_on(self):
        registry = make_registry(("a", "machine", COIN, None), ("b", "machine", SQUARE, "a"), ("c", "machine", COIN, "b"))
        self.assertEqual(registry.query(("chance", "c", 1)), ((0, 0, 1), (1,)))
        registry.define("a", "machine", SWAPPED, None)
        self.assertEqual(registry.query(("chance", "c", 1)), ((1, -2, 1), (1,)))
        registry.define("a", "recipe", RECIPE, None)
        self.assertEqual(registry.query(("chance", "c", 1)), ((1,), (4,)))
        registry.define("b", "program", FAIR_PROGRAM, "a")
        self.assertEqual(registry.query(("chance", "c", 1)), HALF)
        self.assertEqual(registry.query(("mean", "c")), ((4,), (0, 1, -1)))

    def test_alike(self):
        registry = make_registry(
            ("coin", "machine", COIN, None), ("back", "machine", SWAPPED, None), ("same", "machine", SWAPPED, "back"),
            ("fair", "machine", FAIR, None), ("more", "machine", (*COIN, ("end", 6)), None), ("never", "machine", NEVER, None),
            ("loop", "machine", LOOP, "coin"), ("prog", "program", FAIR_PROGRAM, "back"), ("rec", "recipe", RECIPE, "coin"),
            ("six", "machine", (("toss", 1, 2), ("end", 1), ("end", 6)), None),
            # Answers that the coins below them do not have.
            ("far", "machine", (("toss", 1, 2), ("end", 3), ("end", 8)), "coin"),
            ("afar", "machine", (("toss", 1, 2), ("end", 8), ("end", 3)), "back"),
            ("away", "machine", (("toss", 1, 2), ("end", 8), ("end", 3)), "coin"),
        )
        for one, other, due in (
            ("far", "afar", None), ("far", "away", ((1, 3), 3)), ("far", "never", ((1, 2), 3)), ("away", "afar", ((1, 3), 3)),
            ("coin", "coin", None), ("coin", "same", None), ("coin", "more", None), ("never", "loop", None),
            ("fair", "prog", None), ("rec", "prog", None), ("rec", "fair", None), ("coin", "back", ((1, 3), 0)),
            ("coin", "fair", ((1, 3), 0)), ("coin", "six", ((1, 2), 0)), ("six", "coin", ((1, 2), 0)),
            ("never", "six", ((1, 2), 1)), ("more", "six", ((1, 2), 0)),
        ):
            self.assertEqual(registry.query(("alike", one, other)), due)
            self.assertEqual(registry.query(("alike", other, one)), due)

    def test_wishes(self):
        registry = make_registry(("sq", "machine", SQUARE, None), ("fair", "recipe", RECIPE, "sq"), ("top", "machine", SQUARE, "sq"))
        for q in (HALF, P, ((0, 0, 1), (1, -2, 2)), ((1,), (5,)), ((), (1,)), ((1,), (1,)), ((0, 2), (1,)), ((1,), (10 ** 9,))):
            result = synthesize(q)
            for name, heads in ((None, P), ("sq", ((0, 0, 1), (1,))), ("fair", HALF), ("top", ((0, 0, 0, 0, 1), (1,)))):
                due = compose_rationals(q, heads) if result[0] == "recipe" else None
                self.assertEqual(registry.query(("wish", q, name)), (result, due))
        self.assertEqual(registry.query(("wish", ((0, 2), (1,)), None))[0][0], "none")
        self.assertEqual(registry.query(("wish", ((1,), (10 ** 9,)), None))[0][0], "dear")
        self.assertEqual(Registry().query(("wish", HALF, None)), (("recipe", RECIPE), HALF))

    def test_default_tosses_and_halvings(self):
        almost = ((10 ** 25 + 1, -6 * 10 ** 25, 9 * 10 ** 25), (10 ** 30,))
        for q in (((1,), (2 ** 12,)), almost, ((5, -24, 29), (40,))):
            self.assertEqual(Registry().query(("wish", q, None))[0], synthesize(q, tosses=12, halvings=40))

    def test_unknown_names(self):
        registry = make_registry(("a", "machine", COIN, None), ("big", "machine", coin_of(13), None))
        for question, name in (
            (("chance", "no", 1), "no"), (("never", "no"), "no"), (("mean", "no"), "no"), (("wish", HALF, "no"), "no"),
            (("alike", "a", "no"), "no"), (("alike", "no", "a"), "no"), (("alike", "y", "x"), "y"), (("alike", "big", "x"), "x"),
        ):
            self.assert_raises(UnknownName, name, registry.query, question)
            self.assert_raises(UnknownName, name, registry.record, question)
        self.assertEqual((registry.records(), registry.record(("never", "a"))), ({}, 0))

    def test_wish_for_what_is_no_coin(self):
        large = (*[("toss", k + 1, k + 1) for k in range(13)], ("end", 1))
        for value, reason in ((HALF_TRAP, "ends"), (TWICE, "answers"), (ENDED, "answers"), ((("end", 1),), "sure"), (large, "sure")):
            registry = make_registry(("x", "machine", value, None))
            self.assert_raises(InvalidCoin, reason, registry.query, ("wish", HALF, "x"))

    def test_twelve_and_thirteen(self):
        for kind, fits, over in (
            ("machine", coin_of(12), coin_of(13)), ("machine", coin_of(4, 8), coin_of(4, 9)),
            ("program", positions_of(12), positions_of(13)), ("machine", coin_of(1, 11), coin_of(1, 12)),
        ):
            self.assertIsNone(coin_error(fits if kind == "machine" else compile_program(fits)))
            registry = make_registry(("fits", kind, fits, None), ("over", kind, over, None), ("coin", "machine", COIN, None))
            registry.define("top", "machine", COIN, "over")
            registry.define("last", "machine", (("end", 1),), "top")
            for name in ("over", "top", "last"):
                for question in (("chance", name, 1), ("never", name), ("mean", name), ("alike", name, "coin"), ("alike", "coin", name)):
                    self.assert_raises(LimitExceeded, 12, registry.query, question)
            for name in ("over", "top"):
                self.assert_raises(LimitExceeded, 12, registry.query, ("wish", HALF, name))
            for question in (("chance", "fits", 1), ("never", "fits"), ("mean", "fits"), ("wish", HALF, "fits"), ("alike", "coin", "fits")):
                registry.query(question)

    def test_products(self):
        recipe = (5, (0, 3, 7, 1, 5, 0), (1, 4, 7, 8, 5, 0))
        for sizes, due in (
            ((12, 5), 60), ((5, 12), 60), ((6, 10), 60), ((12, 6), 72), ((7, 9), 63), ((2, 2, 3, 5), 60), ((2, 2, 2, 2, 2, 2), 64),
            ((61 // 12, 12), 60), ((1,) * 30 + (12, 5), 60), ((1,) * 30 + (12, 5, 1, 2), 120), ((8, 8), 64), ((3, 4, 5), 60),
        ):
            registry = Registry()
            by = None
            for k, size in enumerate(sizes):
                name = f"{chr(97 + k // 26)}{chr(97 + k % 26)}"
                registry.define(name, "machine", coin_of(size), by)
                by = name
            for question in (("chance", by, 1), ("never", by), ("mean", by), ("alike", by, by), ("wish", HALF, by)):
                if due > 60:
                    self.assert_raises(LimitExceeded, 60, registry.query, question)
                else:
                    registry.query(question)
        # A recipe counts its tosses, a program its positions, a machine also what is not reachable.
        for coins, due in (
            ((("recipe", recipe), ("machine", coin_of(12))), 60), ((("recipe", recipe), ("recipe", recipe), ("machine", coin_of(3))), 75),
            ((("recipe", recipe), ("recipe", recipe), ("machine", coin_of(2))), 50), ((("program", positions_of(12)), ("recipe", recipe)), 60),
            ((("program", positions_of(11)), ("program", positions_of(6))), 66), ((("machine", coin_of(1, 10)), ("machine", coin_of(6))), 66),
            ((("machine", coin_of(1, 9)), ("machine", coin_of(6))), 60),
        ):
            registry = Registry()
            by = None
            for name, (kind, value) in zip("abc", coins):
                registry.define(name, kind, value, by)
                by = name
            if due > 60:
                self.assert_raises(LimitExceeded, 60, registry.query, ("chance", by, 1))
            else:
                registry.query(("chance", by, 1))

    def test_a_product_of_zero(self):
        # What does not toss asks nothing of the coins below it, however many there are.
        registry = make_registry(("ca", "machine", coin_of(12), None))
        for k in range(1, 15):
            registry.define(f"c{chr(97 + k)}", "machine", coin_of(12), f"c{chr(96 + k)}")
        for name, kind, value in (("d", "machine", (("end", 1),)), ("e", "recipe", (0, (0,), (1,))), ("f", "program", NEVER_AT_ONCE)):
            registry.define(name, kind, value, "co")
        registry.define("g", "machine", (("end", 1),), None)
        self.assert_raises(LimitExceeded, 60, registry.query, ("chance", "co", 1))
        for name, chance, never in (("d", 1, 0), ("e", 0, 0), ("f", 0, 1)):
            self.assertEqual(registry.query(("chance", name, 1)), ((1,) * chance, (1,)))
            self.assertEqual(registry.query(("never", name)), ((1,) * never, (1,)))
            self.assertEqual(registry.query(("alike", name, name)), None)
        self.assertEqual(registry.query(("mean", "d")), ((), (1,)))
        self.assertEqual(registry.query(("mean", "e")), ((), (1,)))
        self.assertEqual(registry.query(("alike", "d", "g")), None)
        self.assertEqual(registry.query(("alike", "d", "e")), ((1, 2), 0))
        self.assert_raises(LimitExceeded, 60, registry.query, ("alike", "d", "co"))

    def test_order_of_limits(self):
        registry = make_registry(
            ("a", "machine", coin_of(12), None), ("b", "machine", coin_of(12), "a"), ("big", "machine", coin_of(13), None),
            ("top", "machine", coin_of(12), "big"), ("trap", "machine", HALF_TRAP, "top"), ("wait", "machine", HALF_TRAP, "b"),
            ("wide", "machine", (*HALF_TRAP, *[("toss", 0, 0)] * 12), None),
        )
        self.assert_raises(LimitExceeded, 12, registry.query, ("alike", "b", "big"))
        self.assert_raises(LimitExceeded, 12, registry.query, ("alike", "b", "top"))
        self.assert_raises(LimitExceeded, 12, registry.query, ("mean", "trap"))
        self.assert_raises(LimitExceeded, 60, registry.query, ("mean", "wait"))
        self.assert_raises(LimitExceeded, 12, registry.query, ("mean", "wide"))
        self.assert_raises(InvalidCoin, "ends", registry.query, ("wish", HALF, "trap"))
        self.assert_raises(UnknownName, "no", registry.query, ("alike", "b", "no"))

    def test_mean_of_what_may_run_forever(self):
        for kind, value in (
            ("machine", HALF_TRAP), ("machine", NEVER), ("machine", MIXED), ("program", NEVER_AT_ONCE),
            ("program", ((("toss", (("loop", ()),), ()),), ())), ("program", ((("loop", (("toss", (), ()),)),), ())),
        ):
            registry = make_registry(("fair", "machine", FAIR, None), ("x", kind, value, "fair"))
            machine = value if kind == "machine" else compile_program(value)
            for call in (registry.query, registry.record):
                with self.assertRaises(MayNotTerminate) as held:
                    call(("mean", "x"))
                tape, states = held.exception.trap
                self.assertTrue(check_claim(("trapped", machine), ("trap", tape, states)))
            self.assertEqual(registry.records(), {})

    def test_long_chains(self):
        registry = Registry()
        by = None
        for k in range(3000):
            name = "".join(chr(97 + k // 26 ** j % 26) for j in range(3))
            registry.define(name, "machine", SWAPPED if k % 3 else COIN, by)
            by = name
        self.assertEqual(registry.query(("chance", by, 1)), P)
        self.assertEqual(registry.query(("mean", by)), ((1,), (1,)))
        number = registry.record(("never", by))
        registry.define("aaa", "machine", SWAPPED, None)
        self.assertEqual(registry.invalidated(), [number])
        self.assertEqual(registry.query(("chance", by, 1)), ((1, -1), (1,)))
        with self.assertRaises(CyclicDefinition) as held:
            registry.define("aaa", "machine", COIN, by)
        self.assertEqual(len(held.exception.names), 3001)


class Records(Checked):

    def test_example(self):
        registry = make_registry(("a", "machine", COIN, None))
        number = registry.record(("never", "a"))
        registry.define("a", "machine", COIN, None)
        self.assertEqual((number, registry.records(), registry.invalidated()), (0, {}, [0]))

    def chain(self):
        """Return a registry of two chains, d to a and z to y, with a record of each kind for each name."""
        registry = make_registry(
            ("a", "machine", COIN, None), ("b", "machine", SQUARE, "a"), ("c", "recipe", RECIPE, "b"), ("d", "machine", COIN, "c"),
            ("y", "machine", SWAPPED, None), ("z", "machine", FAIR, "y"),
        )
        questions = []
        for name in "abcdyz":
            questions += [("chance", name, 1), ("never", name), ("mean", name), ("wish", HALF, name), ("alike", name, "y")]
        questions += [("alike", "a", "d"), ("alike", "z", "c"), ("wish", P, None)]
        for k, question in enumerate(questions):
            self.assertEqual(registry.record(question), k)
        return registry, questions

    def test_records(self):
        registry, questions = self.chain()
        self.assertEqual(list(registry.records()), list(range(len(questions))))
        for number, (question, answer) in registry.records().items():
            self.assertEqual(question, questions[number])
            self.assertEqual(answer, registry.query(question))
        self.assertEqual(registry.invalidated(), [])

    def test_exactly_those_that_are_reached(self):
        below = {"a": "a", "b": "ab", "c": "abc", "d": "abcd", "y": "y", "z": "yz"}
        for word in "abcdyz":
            for change in ("define", "remove"):
                registry, questions = self.chain()
                before = registry.records()
                coin = {"a": ("machine", COIN, None), "y": ("machine", SWAPPED, None), "c": ("recipe", RECIPE, "b")}
                if change == "define":
                    registry.define(word, *coin.get(word, ("machine", FAIR, {"b": "a", "d": "c", "z": "y"}.get(word))))
                elif word in "dz":
                    registry.remove(word)
                else:
                    self.assertRaises(NameInUse, registry.remove, word)
                    self.assertEqual((registry.records(), registry.invalidated()), (before, []))
                    continue
                reached = [
                    k for k, question in enumerate(questions)
                    if any(word in below.get(part, "") for part in question[1:] if isinstance(part, str))
                ]
                self.assertEqual(registry.invalidated(), reached)
                self.assertEqual(registry.records(), {k: v for k, v in before.items() if k not in reached})

    def test_numbers_go_on(self):
        registry, questions = self.chain()
        size = len(questions)
        registry.define("a", "machine", SWAPPED, None)
        gone = registry.invalidated()
        self.assertEqual(registry.record(("chance", "a", 1)), size)
        self.assertEqual(registry.records()[size], (("chance", "a", 1), ((1, -1), (1,))))
        registry.define("a", "machine", COIN, None)
        self.assertEqual(registry.invalidated(), [*gone, size])
        self.assertEqual(registry.record(("chance", "a", 1)), size + 1)

    def test_removed_and_defined_again(self):
        registry = make_registry(("a", "machine", COIN, None))
        registry.record(("chance", "a", 1))
        registry.remove("a")
        self.assertEqual((registry.records(), registry.invalidated()), ({}, [0]))
        registry.define("a", "machine", COIN, None)
        self.assertEqual((registry.records(), registry.invalidated()), ({}, [0]))
        self.assertEqual(registry.record(("chance", "a", 1)), 1)
        # A name that is new is reached by no record.
        registry.define("b", "machine", COIN, "a")
        self.assertEqual(list(registry.records()), [1])

    def test_wish_without_a_name_is_never_invalidated(self):
        registry = make_registry(("a", "machine", COIN, None))
        registry.record(("wish", HALF, None))
        registry.record(("wish", HALF, "a"))
        registry.define("a", "machine", COIN, None)
        registry.remove("a")
        self.assertEqual((list(registry.records()), registry.invalidated()), ([0], [1]))

    def test_the_chain_of_the_time(self):
        # A coin that tosses another one now is reached through the new one.
        registry = make_registry(("a", "machine", COIN, None), ("b", "machine", COIN, None), ("c", "machine", COIN, "a"))
        registry.define("c", "machine", COIN, "b")
        registry.record(("chance", "c", 1))
        registry.define("a", "machine", COIN, None)
        self.assertEqual(registry.invalidated(), [])
        registry.define("b", "machine", COIN, None)
        self.assertEqual(registry.invalidated(), [0])

    def test_returned_containers_are_new(self):
        registry, _ = self.chain()
        registry.define("d", "machine", COIN, "c")
        records, gone, names = registry.records(), registry.invalidated(), registry.list_names()
        kept = (dict(records), list(gone), list(names))
        records.clear()
        gone.append(99)
        names.pop()
        self.assertEqual((registry.records(), registry.invalidated(), registry.list_names()), kept)
        number = registry.save_checkpoint()
        registry.records().clear()
        registry.restore(number)
        registry.records().clear()
        self.assertEqual((registry.records(), registry.invalidated(), registry.list_names()), kept)

    def test_two_registries(self):
        one, other = Registry(), Registry()
        one.define("a", "machine", COIN, None)
        self.assertEqual(len(other), 0)
        other.define("a", "machine", SWAPPED, None)
        one.record(("chance", "a", 1))
        one.save_checkpoint()
        self.assertEqual((other.records(), other.invalidated()), ({}, []))
        self.assert_raises(UnknownCheckpoint, 0, other.restore, 0)
        self.assertEqual(other.record(("chance", "a", 1)), 0)
        one.define("a", "machine", COIN, None)
        self.assertEqual(other.records(), {0: (("chance", "a", 1), ((1, -1), (1,)))})


class Checkpoints(Checked):

    def test_example(self):
        registry = make_registry(("a", "machine", COIN, None))
        number = registry.save_checkpoint()
        registry.define("b", "machine", COIN, "a")
        self.assertIsNone(registry.restore(number))
        self.assertEqual((number, registry.list_names()), (0, ["a"]))

    def test_numbers(self):
        registry = Registry()
        self.assert_raises(UnknownCheckpoint, 0, registry.restore, 0)
        self.assertEqual([registry.save_checkpoint() for _ in range(4)], [0, 1, 2, 3])
        for number in (4, -1, 100, 10 ** 59):
            self.assert_raises(UnknownCheckpoint, number, registry.restore, number)
        registry.restore(1)
        self.assert_raises(UnknownCheckpoint, 2, registry.restore, 2)
        self.assertEqual(registry.save_checkpoint(), 2)
        registry.restore(2)
        registry.restore(2)
        registry.restore(0)
        self.assertEqual(registry.save_checkpoint(), 1)

    def test_all_is_brought_back(self):
        registry = make_registry(("a", "machine", COIN, None), ("b", "machine", SQUARE, "a"))
        for name in ("a", "b"):
            registry.record(("chance", name, 1))
        registry.define("b", "machine", FAIR, "a")
        registry.record(("mean", "b"))
        state = (registry.records(), registry.invalidated(), registry.list_names())
        number = registry.save_checkpoint()
        registry.define("a", "machine", SWAPPED, None)
        registry.remove("b")
        registry.define("c", "recipe", RECIPE, "a")
        registry.record(("chance", "c", 1))
        later = registry.save_checkpoint()
        self.assertEqual(later, number + 1)
        for _ in range(2):
            registry.restore(number)
            self.assertEqual((registry.records(), registry.invalidated(), registry.list_names()), state)
            self.assertEqual(registry.query(("chance", "a", 1)), P)
            self.assertEqual(registry.query(("chance", "b", 1)), HALF)
            self.assert_raises(UnknownName, "c", registry.query, ("chance", "c", 1))
            self.assert_raises(UnknownCheckpoint, later, registry.restore, later)
            # The next record has the number that it had then; what follows does not change the checkpoint.
            self.assertEqual(registry.record(("never", "b")), 3)
            registry.define("b", "machine", COIN, "a")
            self.assertEqual(registry.invalidated(), [1, 2, 3])
        self.assertEqual(registry.save_checkpoint(), number + 1)


class Histories(unittest.TestCase):

    def values(self, generator):
        machines = [COIN, SWAPPED, FAIR, SQUARE, ENDED, HALF_TRAP, TWICE, NEVER, (("end", 1),), coin_of(3), coin_of(13), coin_of(2, 5), coin_of(12)]
        programs = [*PROGRAMS, positions_of(3), positions_of(5), positions_of(13), MANY_STATES, MANY_STEPS, ((("leave",),), ())]
        recipes = [RECIPE, (0, (1,), (1,)), (1, (0, 1), (1, 1)), (3, (0, 2, 0, 1), (1, 3, 0, 1)), (6, (0,) * 7, (1,) * 7), (1, (0, 0), (0, 0))]
        kind = generator.choice(("machine", "machine", "program", "recipe"))
        if generator.random() < 0.5:
            return kind, generator.choice({"machine": machines[:4], "program": [FAIR_PROGRAM, positions_of(3)], "recipe": recipes[:1]}[kind])
        return kind, generator.choice({"machine": machines, "program": programs, "recipe": recipes}[kind])

    def question(self, generator, names):
        def name():
            return generator.choice(names)

        kind = generator.choice(("chance", "never", "mean", "alike", "wish"))
        if kind == "chance":
            return (kind, name(), generator.randrange(4))
        if kind == "alike":
            return (kind, name(), name())
        if kind == "wish":
            return (kind, generator.choice((HALF, P, ((1,), (9,)), ((0, 2), (1,)), ((0, 1), (2, -1)))), generator.choice((None, name())))
        return (kind, name())

    def act(self, generator, names):
        """Return the name of a method, and its arguments."""
        kind = generator.random()
        if kind < 0.4:
            return "define", (generator.choice(names), *self.values(generator), generator.choice((None, *names, *names[:3])))
        if kind < 0.85:
            return generator.choice(("query", "record", "record")), (self.question(generator, names),)
        if kind < 0.9:
            return "remove", (generator.choice(names),)
        if kind < 0.96:
            return "save_checkpoint", ()
        return "restore", (generator.randrange(4),)

    def test_against_the_plain_registry(self):
        words = set()
        for number in range(20):
            generator = make_generator(960 + number)
            registry, plain = Registry(), PlainRegistry()
            names = ("a", "b", "c", "d", "e", "no")
            for _ in range(120):
                method, arguments = self.act(generator, names)
                results = []
                for target in (registry, plain):
                    try:
                        results.append(getattr(target, method)(*arguments))
                    except Refused as error:
                        results.append(error.args)
                    except Exception as error:
                        results.append(refused(error))
                self.assertEqual(results[0], results[1], (method, arguments))
                words.add(results[0][0] if isinstance(results[0], tuple) else method)
                self.check_same(registry, plain)
            self.check_records(registry, plain)
        for word in (
            "UnknownName", "InvalidCoin", "InvalidDefinition", "LimitExceeded", "CyclicDefinition", "NameInUse",
            "MayNotTerminate", "UnknownCheckpoint", "define", "remove", "record", "restore",
        ):
            self.assertIn(word, words)

    def check_same(self, registry, plain):
        self.assertEqual(registry.list_names(), sorted(plain.coins))
        self.assertEqual(len(registry), len(plain.coins))
        self.assertEqual(registry.records(), plain.asked)
        self.assertEqual(list(registry.records()), sorted(plain.asked))
        self.assertEqual(registry.invalidated(), sorted(plain.broken))

    def check_records(self, registry, plain):
        """Check each record against the same question now, also in a new registry of the same coins."""
        fresh = Registry()
        waiting = dict(plain.coins)
        while waiting:
            for name, (kind, value, _, by) in list(waiting.items()):
                if by not in waiting:
                    fresh.define(name, kind, value, by)
                    del waiting[name]
        for question, answer in registry.records().values():
            self.assertEqual(registry.query(question), answer)
            self.assertEqual(fresh.query(question), answer)
            if question[0] == "wish":
                word, certificate = answer[0][:2]
                if word == "recipe":
                    self.assertTrue(check_claim(("recipe", question[1], certificate), ()))
                elif word != "unsettled":
                    claim = (word, question[1]) if word == "none" else (word, question[1], 12)
                    self.assertTrue(check_claim(claim, certificate))


if __name__ == "__main__":
    unittest.main()
