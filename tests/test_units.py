import random
import unittest

from drawn import drawn_system
from keptbits.errors import NotClosed, NotEnabled
from keptbits.items import closure, items_of, needs
from keptbits.steps import Pair, Serve
from keptbits.systems import System
from keptbits.units import Unit, units_of
from samples import ODD_VALUES, refused, same
from test_items import ITEMS, TEXT

PLAIN = "width 8\nport S\nfield A 0 1 keep store drift 0\nfield B 1 1 keep store end 1\ntask z 0 0\nread a S w\nserve a 1"
NO_ITEMS = (*ODD_VALUES, ("bit", "A", 1), ("bit", "A", False), ["bit", "A", 0], ("bit", "A"), ("bit", "A", 0, 0),
            ("key", "S"), ("latch", "A"), ("var", "z", "a", 2), ("var", "z", "b", 0), ("mark", "z", "a", "A"), "bit",
            (("bit", "A", 0),), {"bit": ("A", 0)}, ("bit", ["A"], 0))
NO_MOVES = (*ODD_VALUES, ("step", "x"), ("step", "S"), ("step",), ("step", "z", 0), ["step", "z"], ("Step", "z"), "z",
            ("device", "A"), ("device", "A", 1), ("device", "A", False), ("device", "A", 0, 0), ("device", "S", 0),
            ("step", ["z"]), ("device", ("A",), 0), (("step", "z"),), {"step": "z"}, ("bit", "A", 0))


def seeds_told(system):
    """The seeds of units, sentence by sentence."""
    items = items_of(system)
    found = [(item,) for item in items if item[0] == "bit"]
    found += [(item,) for item in items if item[0] == "var" and any(
        isinstance(step, Serve) and step.variable == item[2] and step.mask >> item[3] & 1
        for step in system[item[1]].steps)]
    found += [(("bit", one, i), ("bit", other, i)) for one, other in system.mirrors
              for i in range(system.layout[one].size)]
    found += [tuple(("mark", task.name, name, step.field) for name in (step.first, step.second))
              for task in system for step in task.steps if isinstance(step, Pair)]
    return found


class Units(unittest.TestCase):
    def test_members(self):
        system = System.of_text(PLAIN)
        a, b, va, vb = items_of(system)
        self.assertEqual((a, b, va, vb), (("bit", "A", 0), ("bit", "B", 0), ("var", "z", "a", 0), ("var", "z", "a", 1)))
        for items, wanted in (((), ()), ((a,), (a,)), ((b, a), (a, b)), ((va, a, va), (a, va)),
                              ((vb, va, b, a, b), (a, b, va, vb))):
            for unit in (Unit(system, *items), Unit.of(system, list(items)), Unit.of(system, items),
                         Unit.of(items=items, system=system), Unit.around(system, *items)):
                self.assertTrue(same(unit.members, wanted))
                self.assertIs(unit.system, system)
                self.assertIs(unit.__class__, Unit)
                self.assertTrue(same(len(unit), len(wanted)))
                self.assertTrue(same(list(unit), list(wanted)))
                self.assertTrue(same((repr(unit), str(unit)), (f"Unit({len(wanted)} items)",) * 2))
                for item in (a, b, va, vb):
                    self.assertIs(item in unit, item in wanted)
                for value in NO_ITEMS:
                    self.assertIs(value in unit, False)
        self.assertTrue(same(Unit.of_all(system).members, (a, b, va, vb)))
        self.assertTrue(same(Unit.around(system, vb).members, (b, vb)))

    def test_a_list_that_changes_later(self):
        system = System.of_text(PLAIN)
        items = [("bit", "A", 0)]
        unit = Unit.of(system, items)
        items.append(None)
        self.assertEqual(unit.members, (("bit", "A", 0),))

    def test_what_is_not_closed(self):
        system = System.of_text(TEXT)
        for value in NO_ITEMS:
            for items in ((value,), (("bit", "EV", 0), value), (value, ("var", "main", "b", 0), None)):
                refused(self, NotClosed, {"item": value}, Unit, system, *items)
                refused(self, NotClosed, {"item": value}, Unit.of, system, list(items))
                refused(self, NotClosed, {"item": value}, Unit.around, system, *items)
        for items, lacking in (((("bit", "EV", 0),), ("bit", "LK", 0)),
                               ((("var", "main", "b", 0),), ("bit", "EV", 0)),
                               ((("bit", "EV", 0), ("bit", "LK", 0), ("var", "irq", "a", 0)), ("bit", "LOW", 0)),
                               ((("var", "irq", "a", 0), ("bit", "LK", 0), ("bit", "LOW", 0), ("bit", "EV", 1)),
                                ("key", "OTHER")),
                               ((("mark", "irq", "c", "HIGH"), ("var", "irq", "a", 8)), ("bit", "HIGH", 0)),
                               ((("mark", "irq", "c", "HIGH"),), ("latch", "HIGH"))):
            refused(self, NotClosed, {"item": lacking}, Unit, system, *items)
            refused(self, NotClosed, {"item": lacking}, Unit.of, system, items[::-1])

    def test_within_and_equality(self):
        system, equal = System.of_text(PLAIN), System.of_text(PLAIN)
        other = System.of_text(PLAIN + "\nserve a 2")
        a, b = ("bit", "A", 0), ("bit", "B", 0)
        units = [Unit(system), Unit(system, a), Unit(system, b), Unit(system, a, b), Unit.of_all(system)]
        for k, one in enumerate(units):
            for number, two in enumerate(units):
                self.assertIs(one.within(two), set(one) <= set(two))
                self.assertIs(one == Unit.of(equal, two.members), k == number)
                self.assertIs(one != Unit.of(equal, two.members), k != number)
            self.assertIs(one == Unit.of(other, one.members), False)
            self.assertIs(one.within(other=Unit.of(other, one.members)), True)
            for value in (*ODD_VALUES, one.members, list(one), system):
                self.assertIs(one == value, False)
                self.assertIs(one != value, True)

    def test_starts(self):
        unit = Unit.of_all(System.of_text(TEXT))
        entries = [(0, 0)] * len(ITEMS)
        entries[ITEMS.index(("latch", "HIGH"))] = (0, 1)
        self.assertTrue(same(unit.start, ((0, 0), tuple(entries), (("HIGH", 0, 2),))))
        text = """width 16
port S
field F 0 3 keep store still 5 commit C
field C 3 1 keep once still 1
field H 4 2 keep none drift 2 held C
field G 8 2 keep none still 1 held C
field P 10 2 keep flip1 end 2
task a 0 0
read a S w
read b S w
pair a b G
pair b a H
task b 0 0
read a S w
read b S w
pair a b H"""
        unit = Unit.of_all(System.of_text(text))
        latches = (("H", 0, 2), ("G", 0, 2))
        bits = ((3, 0), (0, 0), (3, 0), (1, 0), (0, 0), (3, 0), (3, 0), (0, 0), (0, 0), (1, 0))
        self.assertTrue(same(unit.start, ((0, 0), bits + ((0, 1), (0, 2)) + ((0, 0),) * (len(unit) - 12), latches)))
        self.assertEqual(unit.members[-6:], (("mark", "a", "a", "H"), ("mark", "a", "a", "G"), ("mark", "a", "b", "H"),
                                             ("mark", "a", "b", "G"), ("mark", "b", "a", "H"), ("mark", "b", "b", "H")))
        alone = Unit(unit.system, ("latch", "G"))
        self.assertTrue(same(alone.start, ((0, 0), ((0, 1),), (("G", 0, 2),))))
        self.assertTrue(same(Unit(unit.system).start, ((0, 0), (), ())))


class Moves(unittest.TestCase):
    def test_moves(self):
        text = PLAIN.replace("field A", "port R\nfield Q 0 2 keep store raise 0\nport T\nfield A") + "\ntask b 1 0\nread a S w"
        system = System.of_text(text)
        unit = Unit.of_all(system)
        wanted = [("device", "A", 0), ("device", "B", 0), ("device", "Q", 0), ("device", "Q", 1), ("step", "b"),
                  ("step", "z")]
        self.assertTrue(same(list(unit.moves(unit.start)), wanted))
        self.assertTrue(same(list(unit.moves(state=unit.start)), wanted))
        some = Unit(system, ("bit", "B", 0), ("bit", "Q", 1))
        self.assertTrue(same(list(some.moves(some.start)), [wanted[1], *wanted[3:]]))
        empty = Unit(system)
        self.assertTrue(same(list(empty.moves(empty.start)), wanted[4:]))
        self.assertEqual(next(iter(unit.moves(unit.start))), wanted[0])

    def test_after(self):
        system = System.of_text(PLAIN)
        unit = Unit.of_all(system)
        told = (((0,), ((1, 0), (1, 0), (0, 0), (0, 0)), ()), ())
        self.assertTrue(same(unit.after(unit.start, ("device", "A", 0)), told))
        self.assertTrue(same(unit.after(move=("device", "A", 0), state=unit.start), told))
        self.assertTrue(same(unit.start, ((0,), ((0, 0), (1, 0), (0, 0), (0, 0)), ())))

    def test_what_is_not_enabled(self):
        system = System.of_text(PLAIN + "\ntask x 0 0\nread a S w\nserve a 1")
        unit = Unit.of_all(system)
        state, faults = unit.after(unit.start, ("step", "z"))
        state, faults = unit.after(state, ("device", "B", 0))
        for value in (*NO_MOVES, ("step", "x"), ("device", "B", 0)):
            refused(self, NotEnabled, {"move": value}, unit.after, state, value)
        some = Unit(system, ("bit", "A", 0))
        self.assertEqual(some.after(some.start, ("device", "A", 0))[0], ((0, 0), ((1, 0),), ()))
        for value in (*NO_MOVES, ("device", "B", 0)):
            if value != ("step", "x"):
                refused(self, NotEnabled, {"move": value}, some.after, some.start, value)

    def test_project(self):
        text = """width 8
port S
field A 0 1 keep clear1 raise 0
field B 1 1 keep clear1 raise 0
task z 0 0
read a S w
serve a 1"""
        system = System.of_text(text)
        whole = Unit.of_all(system)
        state = whole.start
        for move in (("device", "B", 0), ("device", "A", 0), ("step", "z"), ("step", "z"), ("device", "A", 0)):
            state, faults = whole.after(state, move)
        parts = {name: Unit.around(system, ("bit", name, 0)) for name in "AB"}
        self.assertTrue(same(whole.project(state, whole), state))
        self.assertTrue(same(parts["B"].project(state, whole), ((0,), ((1, 1), (0, 0)), (("B", 0, 0),))))
        self.assertTrue(same(parts["A"].project(whole=whole, state=state), ((0,), ((1, 1), (0, 0)), (("A", 0, 0),))))
        self.assertTrue(same(Unit(system).project(state, whole), ((0,), (), ())))
        middle, faults = whole.after(state, ("step", "z"))
        self.assertTrue(same(parts["B"].project(middle, whole), ((1,), ((1, 1), (1, 1)), (("B", 0, 0),))))
        self.assertTrue(same(parts["A"].project(parts["A"].project(middle, whole), parts["A"]),
                             ((1,), ((1, 1), (1, 1)), (("A", 0, 0),))))


class UnitsOf(unittest.TestCase):
    def test_units(self):
        system = System.of_text(PLAIN + "\ntask b 0 0\nread a S w")
        self.assertEqual([unit.members for unit in units_of(system)],
                         [(("bit", "A", 0), ("var", "z", "a", 0)), (("bit", "B", 0),)])
        self.assertIs(units_of(system=system).__class__, tuple)
        still = PLAIN.replace("drift 0", "still 0").replace("end 1", "still 0")
        self.assertEqual([unit.members for unit in units_of(System.of_text(still + "\nmirror B A"))],
                         [(("bit", "A", 0), ("bit", "B", 0)), (("bit", "A", 0), ("var", "z", "a", 0))])
        self.assertTrue(same(units_of(System.of_text("width 8\nport S\nkey K 1\ntask a 0 0\nread a S w")), ()))

    def test_units_of_a_larger_system(self):
        system = System.of_text(TEXT)
        marks = closure(system, ("mark", "irq", "a", "HIGH"), ("mark", "irq", "c", "HIGH"))
        pwm = [closure(system, ("bit", "PWM", i)) for i in (0, 1)]
        wanted = sorted([closure(system, ("bit", "HIGH", 0)), *pwm, marks, closure(system, ("bit", "LOW", 1))])
        self.assertEqual([unit.members for unit in units_of(system)], wanted)
        self.assertEqual([unit.system for unit in units_of(system)], [system] * len(wanted))

    def test_drawn_systems(self):
        draw = random.Random(50)
        for _ in range(300):
            system = drawn_system(draw)
            closures = {closure(system, *seed) for seed in seeds_told(system)}
            wanted = sorted(one for one in closures if not any(set(one) < set(other) for other in closures))
            self.assertEqual([unit.members for unit in units_of(system)], wanted)
            for unit in units_of(system):
                self.assertTrue(all(other in unit for item in unit for other in needs(system, item)))


if __name__ == "__main__":
    unittest.main()
