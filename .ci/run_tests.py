"""Run every test_*.py below the folders that are named, and fail if a test fails or none ran."""

import importlib.util
import sys
import unittest
from pathlib import Path

ROOT = Path(__file__).resolve().parent.parent


def load(path, number):
    """The tests of one file, under a module name that no other file has."""
    name = f"{path.stem}_{number}"
    spec = importlib.util.spec_from_file_location(name, path)
    module = importlib.util.module_from_spec(spec)
    sys.modules[name] = module
    spec.loader.exec_module(module)
    return unittest.defaultTestLoader.loadTestsFromModule(module)


def forget(folder):
    """Drop what was imported from a folder, so that another folder's helpers can have the same names."""
    for name, module in list(sys.modules.items()):
        place = getattr(module, "__file__", None)
        if place is not None and Path(place).is_relative_to(folder):
            del sys.modules[name]


def run_folder(folder):
    """Run the tests of a folder: how many passed, failed and were skipped."""
    paths = sorted(folder.rglob("test_*.py"))
    print(f"{folder}: {len(paths)} files", flush=True)
    if not paths:
        return 0, 0, 0
    homes = sorted({str(path.parent) for path in paths})
    sys.path[:0] = homes
    tests = unittest.TestSuite([load(path, number) for number, path in enumerate(paths)])
    result = unittest.TextTestRunner(stream=sys.stdout, buffer=True).run(tests)
    del sys.path[:len(homes)]
    forget(folder)
    wrong = [getattr(test, "test_case", test).id() for test, _ in result.failures + result.errors]
    wrong += [test.id() for test in result.unexpectedSuccesses]
    failed = len(set(wrong))
    skipped = len(result.skipped)
    return max(0, result.testsRun - failed - skipped), failed, skipped


def main(folders):
    sys.path.insert(0, str(ROOT))
    counts = [run_folder((ROOT / folder).resolve()) for folder in folders]
    passed, failed, skipped = [sum(column) for column in zip(*counts)]
    print("Python " + sys.version.split()[0])
    print(f"{passed} passed, {failed} failed, {skipped} skipped", flush=True)
    return 0 if failed == 0 and passed > 0 else 1


if __name__ == "__main__":
    sys.exit(main(sys.argv[1:]))
