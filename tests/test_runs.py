import random
import unittest

from drawn import drawn_system
from keptbits.errors import TooLarge
from keptbits.runs import run_fault, shortest_run
from keptbits.systems import System
from keptbits.units import Unit, units_of
from large import FULL, OVER, VAST
from samples import ODD_VALUES, laid_open, refused, same
from search import bad_runs, least_bad_run, levels_of
from test_moves import BOTH, EARLY, READY, moves_of
from test_units import NO_MOVES
from world import World

BAD = moves_of("READY.0 main main READY.0 main")


def fault_told(system, value):
    """The fault of any value as a run, by the second telling of the moves."""
    if not isinstance(value, tuple) or value == ():
        return ("form",)
    world = World(system)
    for k, move in enumerate(value):
        if not any(same(move, enabled) for enabled in world.enabled()):
            return ("move", k)
        faults = world.do(move)
        if faults and k < len(value) - 1:
            return ("early", k)
        if not faults and k == len(value) - 1:
            return ("good", k)
    return None


class RunFaults(unittest.TestCase):
    def check(self, system, value, *wanted):
        before = laid_open(value)
        found = run_fault(system, value)
        self.assertTrue(same(found, fault_told(system, value)), value)
        self.assertEqual(laid_open(value), before)
        if wanted:
            self.assertTrue(same(found, wanted[0]), (value, found))
        return found

    def test_a_bad_run(self):
        self.check(System.of_text(EARLY), BAD, None)
        self.assertIs(run_fault(value=BAD, system=System.of_text(EARLY)), None)
        self.check(System.of_text(READY), BAD, ("good", 4))

    def test_form(self):
        system = System.of_text(EARLY)
        for value in (*ODD_VALUES, list(BAD), BAD[0], [BAD[0]], repr(BAD)):
            if not isinstance(value, tuple) or value == ():
                self.check(system, value, ("form",))
            else:
                self.check(system, value, ("move", 0))

    def test_moves(self):
        system = System.of_text(EARLY)
        for value in (*NO_MOVES, ("device", "READY", 1), ("step", "irq"), list(BAD[0])):
            if value != BAD[4]:
                self.check(system, (*BAD[:4], value), ("move", 4))
                self.check(system, (value, *BAD), ("move", 0))
                self.check(system, (value,), ("move", 0))
            self.check(system, (*BAD[:1], *BAD[:1], value), ("move", 1))
        for value in (("step", True), ("device", "READY", False), ("device", "READY", 0, 0), (("step", "main"),)):
            self.check(system, (value,), ("move", 0))

    def test_early_and_good(self):
        system = System.of_text(EARLY)
        for k in range(1, 5):
            self.check(system, BAD[:k], ("good", k - 1))
        self.check(system, (*BAD, ("step", "main")), ("early", 4))
        # a fault stands ahead of what follows it
        for value in ODD_VALUES:
            self.check(system, (*BAD, value), ("early", 4))
            self.check(system, (*BAD[:2], value, *BAD[2:]), ("move", 2))
        self.check(system, BAD * 2, ("early", 4))

    def test_long_runs(self):
        system = System.of_text(READY)
        self.check(system, (("step", "main"),) * 2999, ("good", 2998))

    def test_drawn_runs(self):
        draw, found = random.Random(80), []
        for _ in range(120):
            system = drawn_system(draw)
            for _ in range(6):
                world, run = World(system), []
                for _ in range(draw.randint(1, 9)):
                    run.append(draw.choice(world.enabled()))
                    if world.do(run[-1]) and draw.random() < 0.8:
                        break
                if draw.random() < 0.2:
                    run.insert(draw.randint(0, len(run)), draw.choice(run))
                found.append(self.check(system, tuple(run)))
        self.assertEqual({fault and fault[0] for fault in found}, {None, "move", "early", "good"})


class Shortest(unittest.TestCase):
    def test_examples(self):
        self.assertIs(shortest_run(Unit.of_all(System.of_text(READY))), None)
        self.assertTrue(same(shortest_run(unit=Unit.of_all(System.of_text(EARLY))), BAD))
        wanted = moves_of("READY.0 main irq irq READY.0 irq main")
        self.assertTrue(same(shortest_run(Unit.of_all(System.of_text(BOTH))), wanted))

    def test_the_least_of_many(self):
        text = "width 8\nport S\nfield B 1 1 keep store drift 0\nfield A 0 1 keep store drift 0\ntask b 0 0\nwrite S w 0\n" \
               "task a 1 0\nwrite S w 0"
        unit = Unit.of_all(System.of_text(text))
        self.assertEqual(bad_runs(unit, 2), [(deed, step) for deed in moves_of("A.0 B.0") for step in moves_of("a b")])
        self.assertTrue(same(shortest_run(unit), moves_of("A.0 a")))
        self.assertTrue(same(shortest_run(Unit(unit.system, ("bit", "B", 0))), moves_of("B.0 a")))
        self.assertTrue(same(shortest_run(Unit(unit.system)), None))

    def test_what_is_too_large(self):
        unit, = units_of(System.of_text(FULL))
        self.assertTrue(same(shortest_run(unit), least_bad_run(unit)))
        self.assertEqual(len(shortest_run(unit)), 8)
        for text in (OVER, VAST):
            unit = Unit.of_all(System.of_text(text))
            # also if there is a short run that is bad
            refused(self, TooLarge, {"limit": 1000}, shortest_run, unit)

    def test_drawn_units(self):
        draw, many = random.Random(81), 0
        while many < 150:
            system = drawn_system(draw)
            for unit in units_of(system):
                try:
                    levels_of(unit)
                except OverflowError:
                    refused(self, TooLarge, {"limit": 1000}, shortest_run, unit)
                    continue
                run = shortest_run(unit)
                self.assertTrue(same(run, least_bad_run(unit)))
                if run is not None:
                    many += 1
                    if len(run) < 5:
                        self.assertTrue(same(run, bad_runs(unit, 5)[0]))


if __name__ == "__main__":
    unittest.main()
