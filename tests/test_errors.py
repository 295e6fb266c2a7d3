"""The interface of bentcoin.errors."""

import unittest

from bentcoin import errors
from tests.helpers import nest

WITH_ARGUMENT = (
    ("UndefinedValue", ZeroDivisionError, "p"),
    ("AlreadyEnded", RuntimeError, "tosses"),
    ("NameInUse", RuntimeError, "names"),
    ("MayNotTerminate", ValueError, "trap"),
    ("InvalidCoin", ValueError, "reason"),
    ("InvalidDefinition", ValueError, "reason"),
    ("CyclicDefinition", ValueError, "names"),
    ("UnknownCheckpoint", LookupError, "number"),
    ("ParseError", LookupError, "number"),
    ("UnknownName", KeyError, "name"),
    ("LimitExceeded", OverflowError, "limit"),
    ("StepLimitExceeded", OverflowError, "limit"),
)
WITHOUT_ARGUMENT = (("ZeroDenominator", ZeroDivisionError), ("InvalidSide", ValueError))
VALUES = (
    None, True, False, 0, -1, 10 ** 60 - 1, 10 ** 6000, "", "fair", (), (1, 2), (0, "form"),
    [], ["a", None], {}, {"a": [1]}, {1: (2, 3)}, nest("deep", 15), nest(7, 25), ((), (1,)),
)


class ErrorClasses(unittest.TestCase):

    def test_base_is_the_named_builtin_alone(self):
        for word, base, _ in WITH_ARGUMENT:
            self.assertEqual(getattr(errors, word).__bases__, (base,), word)
        for word, base in WITHOUT_ARGUMENT:
            self.assertEqual(getattr(errors, word).__bases__, (base,), word)

    def test_defined_in_errors(self):
        for word, *_ in WITH_ARGUMENT + WITHOUT_ARGUMENT:
            self.assertEqual(getattr(errors, word).__module__, "bentcoin.errors", word)
            self.assertEqual(getattr(errors, word).__name__, word)

    def test_keeps_argument_by_position(self):
        for word, _, name in WITH_ARGUMENT:
            for value in VALUES:
                error = getattr(errors, word)(value)
                self.assertIs(getattr(error, name), value, word)

    def test_keeps_argument_by_keyword(self):
        for word, _, name in WITH_ARGUMENT:
            for value in VALUES:
                error = getattr(errors, word)(**{name: value})
                self.assertIs(getattr(error, name), value, word)

    def test_argument_is_due(self):
        for word, *_ in WITH_ARGUMENT:
            self.assertRaises(TypeError, getattr(errors, word))

    def test_no_argument(self):
        for word, base in WITHOUT_ARGUMENT:
            made = getattr(errors, word)
            self.assertIsInstance(made(), base)
            self.assertRaises(TypeError, made, 1)

    def test_raised_and_caught_by_class_and_by_base(self):
        for word, base, name in WITH_ARGUMENT:
            for caught in (getattr(errors, word), base):
                with self.assertRaises(caught) as held:
                    raise getattr(errors, word)((1, 2))
                self.assertEqual(getattr(held.exception, name), (1, 2))

    def test_no_class_is_below_another(self):
        words = [word for word, *_ in WITH_ARGUMENT + WITHOUT_ARGUMENT]
        for one in words:
            for other in words:
                below = issubclass(getattr(errors, one), getattr(errors, other))
                self.assertEqual(below, one == other, (one, other))


if __name__ == "__main__":
    unittest.main()
