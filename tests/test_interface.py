"""The interface as a whole: its examples, its names, its arguments by position and by name."""

import builtins
import doctest
import inspect
import unittest
from copy import deepcopy
from importlib import import_module
from pathlib import Path

from tests.machine_helpers import COIN, FAIR, MIXED
from tests.program_helpers import CALLS, TOSS_ONCE

HERE = Path(__file__).resolve().parent
EXAMPLES = HERE / "examples.txt"
RECIPE = (2, (0, 1, 0), (0, 2, 0))
Q = ((0, 1), (2, -1))
HALF = ((1,), (2,))

# For each module its functions, with their arguments by name, in the order of the interface.
FUNCTIONS = {
    "polynomials": {
        "add_polynomials": {"one": (1, 2), "other": (3, -2)}, "subtract_polynomials": {"one": (1, 2), "other": (3,)},
        "multiply_polynomials": {"one": (1, 2), "other": (3, -2)}, "evaluate_polynomial": {"polynomial": (1, 0, 2), "p": (1, 3)},
        "divide_exactly": {"polynomial": (1, 0, -1), "other": (1, 1)},
    },
    "rationals": {
        "reduce_rational": {"numerator": (2, 2), "denominator": (4, 0, -4)}, "add_rationals": {"one": Q, "other": HALF},
        "subtract_rationals": {"one": Q, "other": HALF}, "multiply_rationals": {"one": Q, "other": HALF},
        "compose_rationals": {"outer": Q, "inner": HALF}, "evaluate_rational": {"rational": Q, "p": (1, 3)},
    },
    "forms": {
        "to_form": {"polynomial": (0, 1), "degree": 2}, "raise_degree": {"form": (0, 2)}, "multiply_by_ht": {"form": (3,)},
        "from_form": {"form": (0, 2, 1)},
    },
    "signs": {"analyze_sign": {"polynomial": (1, 1), "halvings": 40}},
    "checker": {"check_claim": {"claim": ("none", ((0, 2), (1,))), "certificate": ("beyond", (1, 2), (1, 1))}},
    "machines": {
        "machine_error": {"value": [["toss", 0, {1: [2]}]]}, "reachable_states": {"machine": MIXED}, "end_distances": {"machine": MIXED},
        "check_termination": {"machine": MIXED}, "run_machine": {"machine": FAIR, "tape": "HHHT"}, "count_tapes": {"machine": FAIR, "length": 3},
    },
    "probabilities": {
        "answer_probability": {"machine": FAIR, "answer": 1}, "nontermination_probability": {"machine": MIXED}, "expected_tosses": {"machine": FAIR},
    },
    "equivalence": {"compare_machines": {"one": FAIR, "other": COIN}},
    "choices": {
        "count_good_choices": {"machine": FAIR}, "recipe_from_choices": {"machine": FAIR, "answer": 1}, "expected_tosses_from_choices": {"machine": FAIR},
    },
    "recipes": {
        "rank_in_row": {"tape": "HTH"}, "recipe_error": {"value": [1, [0], {"a": 1}]}, "recipe_probability": {"recipe": RECIPE},
        "recipe_expected_tosses": {"recipe": RECIPE}, "lengthen_recipe": {"recipe": RECIPE}, "run_recipe": {"recipe": RECIPE, "tape": "HHHT"},
        "machine_from_recipe": {"recipe": RECIPE},
    },
    "synthesis": {"fit_recipe": {"rational": HALF, "tosses": 2}, "synthesize": {"rational": Q, "tosses": 12, "halvings": 40}},
    "substitution": {
        "coin_error": {"machine": FAIR}, "substitute_coin": {"machine": COIN, "inner": FAIR}, "swap_sides": {"machine": COIN},
        "chain_machines": {"machine": COIN, "followers": {1: FAIR, 5: MIXED}},
    },
    "programs": {"program_error": {"value": [[{"loop": ()}], ((), ())]}},
    "execution": {"run_program": {"program": CALLS, "tape": "HTHH"}, "compile_program": {"program": CALLS}},
    "formats": {
        "format_rational": {"rational": Q}, "format_machine": {"machine": FAIR}, "format_recipe": {"recipe": RECIPE}, "format_program": {"program": CALLS},
        "parse_rational": {"text": "1 / 2"}, "parse_machine": {"text": "end 5\n"}, "parse_recipe": {"text": "0: 0/1"}, "parse_program": {"text": "end 5\n"},
    },
}
DEFAULTS = {"analyze_sign": {"halvings": 40}, "synthesize": {"tosses": 12, "halvings": 40}}
CONSTANTS = (
    ("probabilities", "MAX_TOSS_STATES", 12), ("choices", "MAX_CHOICE_STATES", 10), ("execution", "MAX_STEPS", 300),
    ("execution", "MAX_PROGRAM_STATES", 48), ("registry", "MAX_DEGREE", 60),
)
# Classes with the arguments that make an object, and their methods with calls by name, in an order that works.
CLASSES = {
    "runner.Runner": ({"machine": FAIR}, (
        ("toss", {"side": "H"}), ("position", {}), ("tape", {}), ("checkpoint", {}), ("rewind", {"number": 0}), ("__len__", {}),
    )),
    "registry.Registry": ({}, (
        ("define", {"word": "a", "kind": "machine", "value": COIN, "by": None}), ("define", {"word": "b", "kind": "recipe", "value": RECIPE, "by": "a"}),
        ("define", {"word": "c", "kind": "program", "value": TOSS_ONCE, "by": "b"}), ("query", {"question": ("alike", "a", "b")}),
        ("record", {"question": ("mean", "b")}), ("records", {}), ("invalidated", {}), ("list_names", {}), ("save_checkpoint", {}),
        ("remove", {"word": "c"}), ("restore", {"number": 0}), ("__len__", {}),
    )),
    "console.Console": ({}, (("execute", {"command": "let a - machine\nend 0\n"}), ("execute", {"command": "never a"}), ("log", {}))),
}
ERRORS = {
    "ZeroDenominator": (ZeroDivisionError, None), "UndefinedValue": (ZeroDivisionError, "p"), "AlreadyEnded": (RuntimeError, "tosses"),
    "NameInUse": (RuntimeError, "names"), "InvalidSide": (ValueError, None), "MayNotTerminate": (ValueError, "trap"),
    "InvalidCoin": (ValueError, "reason"), "InvalidDefinition": (ValueError, "reason"), "CyclicDefinition": (ValueError, "names"),
    "UnknownCheckpoint": (LookupError, "number"), "ParseError": (LookupError, "number"), "UnknownName": (KeyError, "name"),
    "LimitExceeded": (OverflowError, "limit"), "StepLimitExceeded": (OverflowError, "limit"),
}


def load(path):
    """Return the class of a path like "runner.Runner"."""
    module, name = path.split(".")
    return getattr(import_module(f"bentcoin.{module}"), name)


class Examples(unittest.TestCase):

    def test_examples(self):
        """Run each example; the line after its last call is the result as repr shows it, or the error."""
        examples = EXAMPLES.read_text("utf-8").strip("\n").split("\n\n")
        self.assertEqual(len(examples), 72)
        for example in examples:
            *calls, due = example.split("\n")
            names = {}
            self.assertTrue(all(call.startswith(">>> ") for call in calls), example)
            for call in calls[:-1]:
                exec(call[4:], names)
            self.assertEqual(self.tell(calls[-1][4:], names), due, example)

    def test_examples_of_the_readme(self):
        # The results that doctest shows are kept under this name among the builtins.
        self.addCleanup(vars(builtins).pop, "_", None)
        result = doctest.testfile(str(HERE.parent / "README.md"), module_relative=False, report=False)
        self.assertEqual(result.failed, 0)
        self.assertGreater(result.attempted, 40)

    def tell(self, call, names):
        try:
            return repr(eval(call, names))
        except Exception as error:
            parts = [f"{name}={value!r}" for name, value in vars(error).items()]
            return f"raises {type(error).__name__}" + (f"({', '.join(parts)})" if parts else "")


class Names(unittest.TestCase):

    def all_functions(self):
        for module, functions in FUNCTIONS.items():
            loaded = import_module(f"bentcoin.{module}")
            for name, arguments in functions.items():
                yield loaded, name, getattr(loaded, name), arguments

    def test_functions(self):
        for module, name, function, arguments in self.all_functions():
            self.assertEqual(function.__module__, module.__name__, name)
            parameters = inspect.signature(function).parameters
            self.assertEqual(list(parameters), list(arguments), name)
            defaults = {key: p.default for key, p in parameters.items() if p.default is not p.empty}
            self.assertEqual(defaults, DEFAULTS.get(name, {}))
            by_name = {key for key, p in parameters.items() if p.kind is p.KEYWORD_ONLY}
            self.assertEqual(by_name, set(DEFAULTS.get(name, {})))

    def test_arguments_by_position_and_by_name(self):
        for _, name, function, arguments in self.all_functions():
            kept = deepcopy(arguments)
            only = {key: arguments[key] for key in DEFAULTS.get(name, {})}
            first = [value for key, value in arguments.items() if key not in only]
            due = function(*first)
            for result in (
                function(*first, **only), function(**arguments), function(**dict(reversed(arguments.items()))),
            ):
                self.assertEqual(result, due, name)
            self.assertEqual(arguments, kept, name)

    def test_results_belong_to_the_caller(self):
        count = FUNCTIONS["machines"]["count_tapes"]
        function = load("machines.count_tapes")
        function(**count)[0].clear()
        self.assertNotEqual(function(**count)[0], {})

    def test_constants(self):
        for module, name, value in CONSTANTS:
            self.assertEqual(getattr(import_module(f"bentcoin.{module}"), name), value)

    def test_classes(self):
        for path, (made, calls) in CLASSES.items():
            kind = load(path)
            self.assertEqual(list(inspect.signature(kind).parameters), list(made))
            self.assertEqual(kind.__module__, f"bentcoin.{path.split('.')[0]}")
            for name, arguments in calls:
                # Each method is defined in the class itself.
                self.assertIn(name, vars(kind))
                self.assertEqual(list(inspect.signature(vars(kind)[name]).parameters)[1:], list(arguments))

    def test_methods_by_position_and_by_name(self):
        for path, (made, calls) in CLASSES.items():
            kind = load(path)
            objects = (kind(*made.values()), kind(**made), kind(**made))
            for name, arguments in calls:
                kept = deepcopy(arguments)
                results = [
                    getattr(objects[0], name)(*arguments.values()), getattr(objects[1], name)(**arguments),
                    getattr(objects[2], name)(**dict(reversed(arguments.items()))),
                ]
                self.assertEqual(results[0], results[1], (path, name))
                self.assertEqual(results[0], results[2], (path, name))
                self.assertEqual(arguments, kept)

    def test_errors(self):
        module = import_module("bentcoin.errors")
        for name, (base, argument) in ERRORS.items():
            kind = getattr(module, name)
            self.assertEqual(kind.__bases__, (base,))
            for value in (None, 1, "x", ("a", ()), [1], {"a": 2}):
                if argument is None:
                    self.assertEqual(vars(kind()), {})
                else:
                    self.assertEqual(vars(kind(value)), {argument: value})
                    self.assertEqual(vars(kind(**{argument: value})), {argument: value})


if __name__ == "__main__":
    unittest.main()
