"""Values that differ from a value at one place, and values of all kinds."""

from tests.helpers import nest

ANY = (
    None, True, False, 0, 1, -1, 2, 10 ** 60 - 1, -(10 ** 59), "", "H", "T", "cover", "covers",
    "root", "beyond", "short", "signs", "room", "ranks", "trap", "table", "tables", "worths",
    (), ((),), (None,), (0,), (0, 1), (1, 2), ((0, 1), (1, 1)), ((), (1,)), (((), (1,)),), (1, 2, 3),
    [], [0, 1], [()], {}, {0: 1}, {"a": (1, 2)}, ("covers",), ("root", "upper"), ("trap", "H", (0,)),
    ["ranks", [0]], ("ranks", [0]), ("table", ()), ("tables", ()), ("worths", (), ()),
    ("table", (((), (1,)),) * 60), ("ranks", (0,) * 60), ("covers", ((0, 1), (1, 1)), None),
    ("beyond", (1, 2), (True, True)), ("signs", "upper", False), ("room", 0, "upper", 0, 0),
    nest("deep", 15), nest(("ranks", (0,)), 25), tuple(range(10000)), "H" * 10000,
)


def list_changes(value):
    """Return the values that differ from this one at one place."""
    found = list(change_here(value))
    if isinstance(value, tuple):
        for at, part in enumerate(value):
            found.extend((*value[:at], changed, *value[at + 1:]) for changed in list_changes(part))
    return found


def change_here(value):
    yield from (x for x in (None, "x", (), (value,), [value]) if not same(x, value))
    if isinstance(value, tuple):
        yield from change_tuple(value)
    elif isinstance(value, str):
        yield from (value + "H", value + "T", value[1:], value.upper(), list(value), 0)
    elif value is None:
        yield from (0, False)
    else:
        yield from (value + 1, value - 1, str(value), value + 10 ** 59)
        if value != 0:
            yield from (-value, 0)
        if value in (0, 1):
            yield bool(value)


def change_tuple(value):
    yield list(value)
    yield {k: part for k, part in enumerate(value)}
    yield (*value, 0)
    if value:
        yield value[:-1]
        yield value[1:]
        yield (*value, value[-1])
        yield (value[0], *value)
    for at in range(len(value) - 1):
        if not same(value[at], value[at + 1]):
            yield (*value[:at], value[at + 1], value[at], *value[at + 2:])


def same(one, other):
    return type(one) is type(other) and one == other
