import ast
import unittest

from samples import PACKAGE, ROOT

MOST_FUNCTION_LINES = 40
MOST_FILE_LINES = 399
MOST_LINE = 120
MOST_FILES = 100
MOST_STRINGS = 2_000_000


def size_faults(source):
    """What of one file breaks L10."""
    lines = source.split("\n")
    if lines[-1] == "":
        lines.pop()
    found = []
    if len(lines) > MOST_FILE_LINES:
        found.append("file")
    found += [("line", number) for number, line in enumerate(lines, 1) if len(line) > MOST_LINE]
    found += [("tab", number) for number, line in enumerate(lines, 1) if "\t" in line]
    for node in ast.walk(ast.parse(source)):
        if isinstance(node, ast.FunctionDef):
            first = min([node.lineno] + [mark.lineno for mark in node.decorator_list])
            if node.end_lineno - first + 1 > MOST_FUNCTION_LINES:
                found.append(("function", node.name))
    return found


def character_faults(data):
    """The bytes that L14 bars: all but a line feed and those from the space to the tilde."""
    return [byte for byte in data if byte != 10 and not 32 <= byte <= 126]


def string_size(source):
    return sum(len(node.value) for node in ast.walk(ast.parse(source))
               if isinstance(node, ast.Constant) and isinstance(node.value, str))


def parts(folder):
    """All files and folders of the package, but not what Python leaves there when it runs."""
    return [path for path in sorted(folder.rglob("*")) if "__pycache__" not in path.parts]


class Counters(unittest.TestCase):
    def test_sizes_are_seen(self):
        longest = "def f():\n" + "    f()\n" * 39
        self.assertEqual(size_faults(longest + "x = 1\n" * 359), [])
        self.assertEqual(size_faults(longest + "x = 1\n" * 360), ["file"])
        self.assertEqual(size_faults(longest + "    f()\n"), [("function", "f")])
        self.assertEqual(size_faults("class A:\n    @property\n" + longest.replace("\n", "\n    ").join(["    ", "\n"])),
                         [("function", "f")])
        self.assertEqual(size_faults("x = 1" + " " * 115), [])
        self.assertEqual(size_faults("\nx = 1" + " " * 116), [("line", 2)])
        self.assertEqual(size_faults("x = 1\t"), [("tab", 1)])

    def test_characters_are_seen(self):
        self.assertEqual(character_faults(b" ~\n"), [])
        self.assertEqual(character_faults(b"\ta\r\x7f\xc3\x1f"), [9, 13, 127, 195, 31])
        self.assertEqual(string_size("'''ab'''\nx = 'c'\n"), 3)


class Package(unittest.TestCase):
    def test_sizes(self):
        for path in PACKAGE.rglob("*.py"):
            self.assertEqual(size_faults(path.read_text(encoding="utf-8")), [], path)

    def test_characters(self):
        for path in PACKAGE.rglob("*.py"):
            self.assertEqual(character_faults(path.read_bytes()), [], path)

    def test_files(self):
        found = parts(PACKAGE)
        self.assertTrue((PACKAGE / "__init__.py").is_file())
        self.assertLessEqual(len(found), MOST_FILES)
        for path in found:
            if path.is_dir():
                self.assertTrue((path / "__init__.py").is_file(), path)
                self.assertFalse(path.with_suffix(".py").exists(), path)
            else:
                self.assertEqual(path.suffix, ".py", path)
            self.assertEqual(path.name, path.name.lower())
            self.assertTrue(path.stem.replace("_", "a").isalnum() and path.stem.isascii(), path)

    def test_strings(self):
        sizes = [string_size(path.read_text(encoding="utf-8")) for path in PACKAGE.rglob("*.py")]
        self.assertLessEqual(sum(sizes), MOST_STRINGS)

    def test_there_is_one_package_and_no_test_in_it(self):
        packages = [path.parent for path in ROOT.glob("*/__init__.py")]
        self.assertEqual(packages, [PACKAGE])
        self.assertEqual([path for path in parts(PACKAGE) if path.name.startswith("test")], [])


INTERFACE = {
    "words": {"lanes_of": None, "lane_span": None},
    "blends": {
        "Blend": ("__init__", "is_constant", "constant", "__call__", "__and__", "__rand__", "__or__", "__ror__",
                  "__xor__", "__rxor__", "__invert__", "__lshift__", "__rshift__", "then", "sources", "__eq__",
                  "__repr__"),
        "blend_parting": None,
    },
    "kinds": {
        "Kind": ("__init__", "after_read", "after_write", "unguarded", "deeds", "__eq__", "__str__"),
    },
    "bits": {
        "Bit": ("__init__", "read", "write", "deed", "now", "state"),
        "TakenBit": ("read",),
        **{name: ("write",) for name in ("ClearedBit", "ZeroClearedBit", "SetBit", "FlippedBit", "OnceBit", "DeafBit")},
        **{name: ("deed",) for name in ("RaisedBit", "EndedBit")},
        **{name: () for name in ("DriftingBit", "EventBit", "TakenEventBit", "StartBit", "GaugeBit", "SealedBit")},
        "KindBit": ("__init__",),
    },
    "effects": {
        "Effect": ("of", "__call__", "pairs", "__mul__", "__or__", "within", "__eq__"),
        "all_effects": None,
        "shortest": None,
        "effect_parting": None,
    },
    "fields": {
        "Field": ("__init__", "__eq__"),
        "Register": ("__init__", "of", "__eq__"),
        "KeyRegister": ("__init__", "of", "__eq__"),
    },
    "maps": {
        "DeviceMap": ("__init__", "__getitem__", "home", "__contains__", "__len__", "__iter__", "touched", "beside",
                      "of", "__eq__"),
    },
    "images": {
        "Image": ("__init__", "__getitem__", "__setitem__", "__and__", "__or__", "__xor__", "__invert__", "__iand__",
                  "__ior__", "__ixor__", "within", "numbers", "of_numbers", "__eq__", "__str__"),
    },
    "neutral": {"neutral_letters": None, "neutral_write": None},
    "steps": {
        "Step": (),
        **{name: ("__init__", "of", "__eq__", "__str__", "__repr__") for name in ("Read", "Write")},
        **{name: ("__init__", "__eq__", "__str__", "__repr__") for name in ("Serve", "Pair")},
    },
    "tasks": {"Task": ("__init__", "of", "__eq__")},
    "systems": {
        "System": ("__init__", "of", "of_text", "__getitem__", "__contains__", "__iter__", "__eq__", "__str__",
                   "__repr__", "with_holds", "without"),
    },
    "items": {"items_of": None, "needs": None, "closure": None},
    "units": {
        "Unit": ("__init__", "of", "of_all", "around", "moves", "after", "project", "__contains__", "__len__",
                 "__iter__", "within", "__eq__", "__repr__"),
        "units_of": None,
    },
    "machine": {
        "Machine": ("__init__", "of", "state", "places", "done", "faults", "most", "moves", "do", "do_all",
                    "__getitem__", "__contains__", "play", "twin", "trial", "tried", "__eq__", "__repr__"),
        "LoggedMachine": ("log", "back", "__eq__", "__repr__"),
        "StoppedMachine": ("do", "__repr__"),
        "assign_most": None,
    },
}


class Interface(unittest.TestCase):
    def test_each_name_is_defined_in_its_file(self):
        for name, listed in INTERFACE.items():
            tree = ast.parse((PACKAGE / f"{name}.py").read_text(encoding="utf-8"))
            defined = {node.name: node for node in tree.body if isinstance(node, (ast.FunctionDef, ast.ClassDef))}
            for word, methods in listed.items():
                self.assertIn(word, defined)
                if methods is not None:
                    there = {node.name for node in defined[word].body if isinstance(node, ast.FunctionDef)}
                    self.assertEqual(set(methods) - there, set())

    def test_each_sort_of_bit_has_its_own_words(self):
        tree = ast.parse((PACKAGE / "bits.py").read_text(encoding="utf-8"))
        for node in tree.body:
            if isinstance(node, ast.ClassDef) and node.name != "KindBit":
                names = [part.targets[0].id for part in node.body if isinstance(part, ast.Assign)]
                self.assertEqual(names, ["WORDS"], node.name)


if __name__ == "__main__":
    unittest.main()
