"""What several tests use: values of many kinds, and how a refusal is looked at."""

import doctest
from pathlib import Path

ROOT = Path(__file__).resolve().parent.parent
PACKAGE = ROOT / "keptbits"


def nested(depth):
    """A value nested so deep, with every kind of part."""
    value = 1
    for level in range(depth):
        value = [[value], (value,), {"a": value}][level % 3]
    return value


# Any values, as the document lists them. None of them is an integer of a plausible size.
ODD_VALUES = (
    None, True, False, -1, -(10 ** 59), 10 ** 59, 2 ** 32, 2 ** 64,
    "", " ", "8", "16", "w ", "W", "b4", "h2", "b", "0", "store", "keep store still", "x" * 6000,
    (), (8,), (8, 16), ("w",), (None,), [], [8], ["w"], [[], [1]], {}, {8: "w"}, {"w": 8}, {"a": [1]},
    [0] * 5000, nested(20),
)


def same(one, other):
    """Whether two values are equal in their kinds as well."""
    if one.__class__ is not other.__class__:
        return False
    if isinstance(one, (list, tuple)):
        return len(one) == len(other) and all(same(a, b) for a, b in zip(one, other))
    if isinstance(one, dict):
        return same(list(one.items()), list(other.items()))
    return one == other


def laid_open(value):
    """A value with the attributes of all objects in it, so that each change of it can be seen."""
    if isinstance(value, (list, tuple)):
        return value.__class__, [laid_open(part) for part in value]
    if isinstance(value, dict):
        return dict, [(key, laid_open(part)) for key, part in value.items()]
    if hasattr(value, "__dict__") and not isinstance(value, type):
        return value.__class__, laid_open(vars(value))
    return value.__class__, repr(value)


def refused(test, error, attributes, call, *args, **more):
    """A call raises just this error, with these attributes, and leaves its arguments alone."""
    before = laid_open((args, more))
    try:
        result = call(*args, **more)
    except error as caught:
        test.assertIs(caught.__class__, error)
        for name, value in attributes.items():
            test.assertTrue(same(getattr(caught, name), value), (name, value))
    else:
        test.fail(f"{error.__name__} was not raised, but {result!r} returned for {str((args, more))[:200]}")
    test.assertEqual(before, laid_open((args, more)))


def run_example(test, text):
    """Examples of the document do what stands there, to the letter."""
    example = doctest.DocTestParser().get_doctest(text, {}, "example", None, 0)
    test.assertTrue(example.examples)
    said = []
    doctest.DocTestRunner(verbose=False).run(example, out=said.append)
    test.assertEqual("".join(said), "")
