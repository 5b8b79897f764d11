"""The names of the interface, with their arguments, stand where the document lists them."""

import importlib
import inspect
import unittest

from keptbits import errors
from samples import PACKAGE

FUNCTIONS = {
    "words": ("lanes_of(width)", "lane_span(width, lane)"),
    "blends": ("blend_parting(b, c)",),
    "effects": ("all_effects(kind, *, quiet=False)", "shortest(kind, letters, *, quiet=False)", "effect_parting(a, b)"),
    "neutral": ("neutral_letters(kind)", "neutral_write(layout, port, lane, *means)"),
    "items": ("items_of(system)", "needs(system, item)", "closure(system, *items)"),
    "units": ("units_of(system)",),
    "machine": ("assign_most(machine, value)",),
    "runs": ("run_fault(system, value)", "shortest_run(unit)"),
    "judge": ("judge(system)",),
    "holds": ("used_gaps(system, run)", "safe_with(system, *gaps)", "fewest_holds(system)"),
    "rows": ("components(layout, *rows)", "starts(layout, component)", "reached(layout, row, component, start)",
             "shows_reached(layout, row, component, start, told)", "outcomes(layout, row, kept, component, start)",
             "way_to(layout, row, kept, component, start, outcome)", "alike(layout, first, second, kept=())",
             "parting(layout, first, second, kept=())", "needed(layout, row, kept=())"),
    "rewrites": ("narrowest_lane(layout, name)", "set_by_reading(layout, name, value, *, lane=None, variable='a')",
                 "set_by_writing(layout, name, value, *, lane=None)", "least_moves(kind, reset, *, beside=False)",
                 "moved_bits(layout, name, *, lane=None)"),
    "shadows": ("shadow_mirrors(layout, port, other)", "set_by_shadow(layout, name, other, value, *, lane=None, variable='a')",
                "setting_tasks(layout, *settings)", "needed_gaps(layout, *settings)"),
}
# For each class: how it is called, its methods with their parameters, and the names of its properties.
CLASSES = {
    "blends": (
        ("Blend(width, shift=0, keep=None, flip=0)",
         "constant(width, value) then(c) sources() __call__ __and__ __rand__ __or__ __ror__ __xor__ __rxor__ __invert__ "
         "__lshift__ __rshift__ __eq__ __repr__", "is_constant"),),
    "kinds": (("Kind(reading, writing, device)", "after_read(state) after_write(state, bit) unguarded(state, bit) "
               "deeds(state) __eq__ __str__", ""),),
    "bits": (
        ("Bit(value=0)", "read() write(bit) deed()", "now state"), ("TakenBit(value=0)", "read()", ""),
        ("ClearedBit(value=0)", "write(bit)", ""), ("ZeroClearedBit(value=0)", "write(bit)", ""), ("SetBit(value=0)", "write(bit)", ""),
        ("FlippedBit(value=0)", "write(bit)", ""), ("OnceBit(value=0)", "write(bit)", ""), ("DeafBit(value=0)", "write(bit)", ""),
        ("RaisedBit(value=0)", "deed()", ""), ("EndedBit(value=0)", "deed()", ""), ("DriftingBit(value=0)", "", ""),
        ("EventBit(value=0)", "", ""), ("TakenEventBit(value=0)", "", ""), ("StartBit(value=0)", "", ""), ("GaugeBit(value=0)", "", ""),
        ("SealedBit(value=0)", "", ""), ("KindBit(kind, value=0)", "", "")),
    "effects": (("Effect", "of(kind, letters, *, quiet=False) pairs() within(b) __call__ __mul__ __or__ __eq__", ""),),
    "fields": (
        ("Field(name, low, size, *, reading='keep', writing='store', device='still', reset=0, lock=None, key=None, commit=None, "
         "held=None)", "__eq__", ""),
        ("Register(name, *fields, whole=False)", "of(name, fields, whole=False) __eq__", ""),
        ("KeyRegister(name, *constants)", "of(name, constants) __eq__", "")),
    "maps": (("DeviceMap(width, *registers)", "home(name) touched(port, lane) beside(port, lane) of(width, registers) __getitem__ "
              "__contains__ __len__ __iter__ __eq__", ""),),
    "images": (("Image(layout, *words)", "within(other) numbers() of_numbers(layout, numbers) __getitem__ __setitem__ __and__ __or__ "
                "__xor__ __invert__ __iand__ __ior__ __ixor__ __eq__ __str__", ""),),
    "steps": (
        ("Step", "", ""),
        ("Read(variable, port, lane, *means)", "of(variable, port, lane, means=()) __eq__ __str__ __repr__", ""),
        ("Write(port, lane, blend, *means, variable=None)", "of(port, lane, blend, means=(), variable=None) __eq__ __str__ __repr__", ""),
        ("Serve(variable, mask)", "__eq__ __str__ __repr__", ""), ("Pair(first, second, field)", "__eq__ __str__ __repr__", "")),
    "tasks": (("Task(name, *steps, core=0, rank=0, holds=())", "of(name, steps, *, core=0, rank=0, holds=()) __eq__", ""),),
    "systems": (("System(layout, *tasks, mirrors=())", "of(layout, tasks, *, mirrors=()) of_text(text) with_holds(*gaps) without(name) "
                 "__getitem__ __contains__ __iter__ __eq__ __str__ __repr__", ""),),
    "units": (("Unit(system, *items)", "of(system, items) of_all(system) around(system, *items) moves(state) after(state, move) "
               "project(state, whole) within(other) __contains__ __len__ __iter__ __eq__ __repr__", ""),),
    "machine": (
        ("Machine(system)", "of(system, moves) moves() do(move) do_all(*moves) play(*tasks, device=None) twin() trial() tried(work) "
         "__getitem__ __contains__ __eq__ __repr__", "state places done faults most"),
        ("LoggedMachine(system)", "back(number=1) __eq__ __repr__", "log"), ("StoppedMachine(system)", "do(move) __repr__", "")),
    "tables": (("Table(unit, levels)", "of(unit, *, depth=None) fault(*, depth=None) __getitem__ __contains__ __len__ __iter__ __repr__",
                ""),),
    "verdicts": (
        ("Verdict(system, tables)", "fault() __len__", "is_safe depth"), ("Safe(system, tables)", "__repr__", "is_safe"),
        ("Bad(system, run, tables)", "fault() __repr__", "depth faults")),
    "holds": (
        ("Holding(system)", "fault()", "can_help"),
        ("Held(system, chosen, verdict, runs)", "fault() __len__ __contains__", "can_help"), ("Unheld(system, run)", "fault()", "")),
    "desk": (("Desk()", "say(line) say_all(*lines)", ""),),
}
ERRORS = """BitError() InvalidWidth(value) InvalidLane(value) InvalidWord(value) InvalidShift(value) InvalidKind(value)
InvalidLetters(index) InvalidField(name, reason) InvalidMap(name, reason) NoName(name) InvalidStep(reason)
InvalidTask(name, reason) InvalidSystem(name, index, reason) NotEnabled(move) NotClosed(item) TooLarge(limit)
InvalidText(line, word) UnknownCommand() NoSystem() NothingToUndo(number) InvalidMost(value) Exhausted(most) Stopped(last)
NoNeutral(name, index) NoShadow(name, other)"""


def split_calls(text):
    """The words of a row of calls; a blank within parentheses does not part them."""
    found, depth = [""], 0
    for letter in text.replace("\n", " "):
        depth += {"(": 1, ")": -1}.get(letter, 0)
        if letter == " " and depth == 0:
            found.append("")
        else:
            found[-1] += letter
    return [word for word in found if word]


def signature(name, value, skipped=0):
    parts = list(inspect.signature(value).parameters.values())[skipped:]
    return name + str(inspect.Signature(parts))


class Interface(unittest.TestCase):
    def test_functions(self):
        for module, calls in FUNCTIONS.items():
            place = importlib.import_module(f"keptbits.{module}")
            for call in calls:
                value = vars(place)[call.split("(")[0]]
                self.assertTrue(inspect.isfunction(value))
                self.assertEqual(value.__module__, f"keptbits.{module}")
                self.assertEqual(signature(value.__name__, value), call)

    def test_classes(self):
        for module, rows in CLASSES.items():
            place = importlib.import_module(f"keptbits.{module}")
            for call, methods, properties in rows:
                made = vars(place)[call.split("(")[0]]
                self.assertEqual(made.__module__, f"keptbits.{module}")
                if "(" in call:
                    self.assertEqual(signature(made.__name__, made), call)
                for method in split_calls(methods):
                    name = method.split("(")[0]
                    self.assertIn(name, vars(made), made)
                    if "(" in method:
                        plain = inspect.isfunction(vars(made)[name])
                        self.assertEqual(signature(name, getattr(made, name), int(plain)), method, made)
                for name in properties.split():
                    self.assertIsInstance(vars(made)[name], property)

    def test_errors(self):
        calls = split_calls(ERRORS)
        for call in calls:
            name, parameters = call.rstrip(")").split("(")
            made = vars(errors)[name]
            self.assertEqual(made.__bases__, (ValueError,) if name == "BitError" else (errors.BitError,))
            if name == "BitError":
                continue
            values = [f"value {number}" for number, part in enumerate(parameters.split(", ")) if part]
            error = made(*values)
            self.assertEqual([getattr(error, part) for part in parameters.split(", ") if part], values)
            self.assertIsInstance(error, errors.BitError)
        known = {call.split("(")[0] for call in calls}
        self.assertEqual(known, {name for name, value in vars(errors).items() if inspect.isclass(value)})

    def test_the_modules_of_the_interface(self):
        for name in {*FUNCTIONS, *CLASSES, "errors"}:
            self.assertTrue((PACKAGE / f"{name}.py").is_file())


if __name__ == "__main__":
    unittest.main()
