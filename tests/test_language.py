import unittest

from language import language_faults
from samples import PACKAGE

# Each source breaks the rule beside it.
BROKEN = {
    "def f(xs):\n    return xs / 2\n": "L7",
    "def f(xs):\n    return 0.5\n": "L7",
    "def f(xs):\n    return any(x for x in xs)\n": "L7",
    "def f(xs):\n    return [x for x in set(xs)]\n": "L24",
    "def f(xs):\n    return set(xs)\n": "L24",
    "def f(xs):\n    return zip(xs, xs)\n": "L23",
    "def f(xs):\n    for x in xs:\n        xs.append(x)\n": "L23",
    "def f(xs):\n    ys = []\n    for x in xs:\n        ys.append(x)\n    xs = ys\n": "L23",
    "def f(xs):\n    for k, x in enumerate(xs):\n        xs[k] = x\n": "L23",
    "def g(xs):\n    yield from xs\n\n\ndef f(xs):\n    return g(xs)\n": "L23",
    "class A:\n    def g(self):\n        yield 1\n\n\nclass B:\n    def g(self):\n        return 1\n": "L23",
    "def f(xs):\n    return map(str, xs)\n": "L8",
    "def f(xs):\n    return open(xs)\n": "L8",
    "def f(type):\n    return type\n": "L17",
    "def f(register):\n    return register\n": "L17",
    "def f(xs):\n    return xs.format(1)\n": "L25",
    "def f(xs):\n    return xs.nothing\n": "L18",
    "def f(xs):\n    return sorted(xs, start=1)\n": "L22",
    "def f(xs):\n    return 2 ** len(xs)\n": "L27",
    "def f(xs):\n    return '%' + xs\n": "L27",
    "def f(xs):\n    return xs is f\n": "L20",
    "def f(xs):\n    raise xs\n": "L19",
    "def f(xs):\n    try:\n        xs()\n    except Exception:\n        pass\n": "L19",
    "def f(xs):\n    try:\n        xs()\n    finally:\n        f(1)\n": "L6",
    "def f(xs=[]):\n    return xs\n": "L4",
    "@f\ndef g(xs):\n    return xs\n": "L4",
    "import ast\n": "L3",
    "from ast import parse\n": "L2",
    "from keptbits.nothing import f\n": "L16",
    "from keptbits.words import nothing\n": "L16",
    "A = f(1)\n": "L3",
    "A = ([1], 2)\n": "L3",
    "A = 1\nA = 2\n": "L15",
    "def f(len):\n    return len\n": "L15",
    "from keptbits.words import is_int\n\n\ndef f(is_int):\n    return is_int\n": "L15",
    "class A:\n    def __hash__(self):\n        return 1\n": "L5",
    "class A:\n    def __getitem__(self, at):\n        return at\n": "L5",
    "class A:\n    def __str__(self):\n        return f(self)\n": "L28",
    "class A:\n    def __len__(self):\n        return 1 + 1\n": "L28",
    "class A:\n    def __init__(self):\n        self.keys = 1\n": "L26",
    "class A:\n    def told(self):\n        self.told = 1\n": "L18",
    "class A:\n    def told(self):\n        return 1\n\n    def told(self):\n        return 2\n": "L18",
    "class A:\n    @property\n    def told(self):\n        return 1\n\n    def f(self):\n        self.told = 1\n": "L5",
    "class A:\n    @property\n    def told(self):\n        self.rows = 1\n        return 1\n": "L5 pure",
    "class A:\n    def __eq__(self, other):\n        return f(other)\n\n\ndef f(xs):\n    xs.append(1)\n": "L5 pure",
    "class A:\n    def __eq__(self, other):\n        n = 1\n        n += 1\n        return n\n": "L5 pure",
    "def f(xs):\n    return g(lambda x: x, lambda x: 1)\n": "L13",
    "A = {1: f}\n\n\ndef f(xs):\n    return 1\n": "L3",
    "def f(xs):\n    return 1\n\n\nA = {1: [f]}\n": "L3",
    "def f(xs):\n    return 1\n\n\nA = f\n": "L3",
    # an error of the package has an attribute `index`
    "class A:\n    def __getitem__(self, at):\n        return self.rows.index(at)\n": "L5 pure",
    "class A:\n    def __len__(self):\n        return len(f(self))\n\n\ndef f(xs):\n    return xs.value()\n": "L5 pure",
}
FINE = """
from keptbits.words import is_int

TABLE = {"a": (1, 2)}


class A:
    def __init__(self, rows):
        self.rows = rows

    def pieces(self):
        yield from self.rows

    def __eq__(self, other):
        found = []
        for row in self.rows:
            found.append(row)
        return isinstance(other, A) and found == other.rows

    def __str__(self):
        return " ".join([str(row) for row in self.rows])


class B:
    def pieces(self):
        yield 1


def f(xs, *more, n=1):
    found = None
    try:
        found = [x for x in A(xs).pieces() if is_int(x)]
    finally:
        if found is None:
            found = xs
    return sorted({x for x in found}) + list(zip(xs, more)) + [TABLE["a"]]


ACTIONS = {"f": f}


def g(xs):
    action = ACTIONS["f"]
    return action(xs, lambda x: x,
                  lambda x: 1)
"""


class Language(unittest.TestCase):
    def test_what_breaks_a_rule_is_seen(self):
        words = (PACKAGE / "words.py").read_text(encoding="utf-8")
        errors = (PACKAGE / "errors.py").read_text(encoding="utf-8")
        for source, rule in BROKEN.items():
            found = language_faults({"words": words, "errors": errors, "broken": source})
            self.assertIn(rule, [fault[0] for fault in found if fault[1] == "broken"], source)
        self.assertEqual(language_faults({"words": words, "errors": errors, "fine": FINE}), [])

    def test_the_package(self):
        sources = {path.stem: path.read_text(encoding="utf-8") for path in PACKAGE.glob("*.py")}
        self.assertEqual(language_faults(sources), [])


if __name__ == "__main__":
    unittest.main()
