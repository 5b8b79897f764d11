import random
import unittest
from itertools import combinations

from drawn import drawn_system
from keptbits.errors import InvalidSystem, NotEnabled, TooLarge
from keptbits.holds import Held, Holding, Unheld, fewest_holds, safe_with, used_gaps
from keptbits.judge import judge
from keptbits.runs import run_fault
from keptbits.systems import System
from keptbits.tables import Table
from keptbits.units import Unit, units_of
from keptbits.verdicts import Safe
from large import FULL, OVER, VAST
from samples import ODD_VALUES, refused, same
from search import least_bad_run, levels_of
from test_moves import BOTH, EARLY, READY, moves_of
from test_units import NO_MOVES
from world import World

BAD = moves_of("READY.0 main irq irq READY.0 irq main")
# three tasks on two cores, of which each can break in on another one
THREE = """width 8
port S
field READY 0 1 keep clear1 raise 0
task main 0 0
read a S w
write S w a 0 255 0 means READY
serve a 1
task tick 1 0
read b S w
write S w b 0 255 0 means READY
serve b 1"""
NO_GAPS = (*ODD_VALUES, ("main", 0), ("main", 3), ("main", True), ["main", 1], ("main",), ("main", 1, 1), ("x", 1), "main",
           ("main", "1"), (("main", 1),))


def both():
    return System.of_text(BOTH)


def gaps_told(system, run):
    """The gaps that a run uses, by the second telling of the moves."""
    world, found = World(system), set()
    for move in run:
        if move[0] == "step":
            found |= {(task.name, world.places[task.name]) for task in system
                      if task.name != move[1] and world.places[task.name] > 0}
        world.do(move)
    return tuple(sorted(gap for gap in found if gap[1] not in system[gap[0]].holds))


def choices_told(system, most=99):
    """All ascending tuples of at most so many gaps, shorter ones first."""
    gaps = sorted(system.gaps)
    return [chosen for size in range(min(most, len(gaps)) + 1) for chosen in combinations(gaps, size)]


class Used(unittest.TestCase):
    def test_the_example(self):
        self.assertTrue(same(used_gaps(both(), BAD), (("main", 1),)))
        self.assertTrue(same(used_gaps(run=BAD[:2], system=both()), ()))
        self.assertTrue(same(used_gaps(both(), ()), ()))

    def test_what_is_used(self):
        for text, words, wanted in ((BOTH, "main irq", [("main", 1)]), (BOTH, "main irq irq", [("main", 1)]),
                                    (BOTH, "main main irq", [("main", 2)]), (BOTH, "main main main irq", []),
                                    # a deed uses none, a step of the task itself neither
                                    (BOTH, "main READY.0 main main", []),
                                    (BOTH, "main irq irq irq main irq", [("main", 1), ("main", 2)]),
                                    (THREE, "tick main tick", [("main", 1), ("tick", 1)]),
                                    (THREE, "main tick main tick", [("main", 1), ("main", 2), ("tick", 1)]),
                                    (THREE + "\ntask z 2 0\nread a S w", "tick main z", [("main", 1), ("tick", 1)]),
                                    # a gap that is held is none
                                    (BOTH.replace("main 0 0", "main 0 0 hold 1"), "main main irq", [("main", 2)])):
            self.assertTrue(same(used_gaps(System.of_text(text), moves_of(words)), tuple(wanted)), words)

    def test_what_is_not_enabled(self):
        system = both()
        for value in (*NO_MOVES, ("step", "x"), ("device", "READY", 1)):
            refused(self, NotEnabled, {"move": value}, used_gaps, system, (*BAD[:3], value, None))
            refused(self, NotEnabled, {"move": value}, used_gaps, system, (value,))
        # it is behind the lines of the run that main is told
        refused(self, NotEnabled, {"move": ("step", "main")}, used_gaps, system, moves_of("main irq main READY.0"))

    def test_drawn_runs(self):
        draw, found = random.Random(100), set()
        for _ in range(150):
            system, run = drawn_system(draw), []
            world = World(system)
            for _ in range(draw.randrange(14)):
                run.append(draw.choice(world.enabled()))
                world.do(run[-1])
            wanted = gaps_told(system, run)
            self.assertTrue(same(used_gaps(system, tuple(run)), wanted))
            found.add(len(wanted))
        self.assertTrue({0, 1, 2, 3} <= found)


class SafeWith(unittest.TestCase):
    def test_examples(self):
        system = both()
        for gaps, wanted in (((), False), ((("main", 1),), True), ((("main", 2),), False), ((("irq", 1), ("irq", 2)), False),
                             ((("irq", 2), ("main", 1), ("main", 1)), True)):
            self.assertIs(safe_with(system, *gaps), wanted)

    def test_errors(self):
        system = both()
        for value in NO_GAPS:
            refused(self, InvalidSystem, {"name": "", "index": 1, "reason": "gap"}, safe_with, system, ("main", 1), value, None)
        for text in (OVER, VAST):
            system = System.of_text(text)
            refused(self, TooLarge, {"limit": 1000}, safe_with, system)
            refused(self, InvalidSystem, {"name": "", "index": 0, "reason": "gap"}, safe_with, system, 5)
        # with holds there can be fewer states
        system = System.of_text(OVER)
        self.assertIs(safe_with(system, *system.gaps), False)


class Base(unittest.TestCase):
    def test_a_holding(self):
        system = both()
        holding = Holding(system=system)
        self.assertIs(holding.system, system)
        self.assertIs(holding.can_help, False)
        self.assertIs(holding.fault(), None)
        self.assertTrue(issubclass(Held, Holding) and issubclass(Unheld, Holding))


class HeldFaults(unittest.TestCase):
    def answer(self):
        found = fewest_holds(both())
        return found.system, found.chosen, found.verdict, found.runs

    def test_what_is_shown(self):
        system, chosen, verdict, runs = self.answer()
        held = Held(runs=runs, verdict=verdict, chosen=chosen, system=system)
        self.assertIs(held.can_help, True)
        self.assertIs(held.system, system)
        self.assertIs(held.verdict, verdict)
        self.assertTrue(same((held.chosen, held.runs, len(held)), ((("main", 1),), runs, 1)))
        self.assertIs(("main", 1) in held, True)
        for value in (*NO_GAPS, ("main", 2), ("irq", 1)):
            self.assertIs(value in held, False)
            answer = Held(system, value, value, value)
            self.assertTrue(same((answer.chosen, answer.verdict, answer.runs), (value,) * 3))
            self.assertTrue(same(len(answer), len(value) if isinstance(value, tuple) else 0))
            for part in value if isinstance(value, (tuple, list)) else ():
                self.assertIs(part in answer, isinstance(value, tuple))
            self.assertIs(None in Held(system, (value, 5), None, None), value is None)
            self.assertIs(value in Held(system, (0.5, value), None, None), True)
        self.assertIs(True in Held(system, (1, "1"), None, None), False)

    def test_chosen(self):
        system, chosen, verdict, runs = self.answer()
        for value in (*ODD_VALUES, ["main", 1], ("main", 1), [("main", 1)], chosen * 2, (("main", 2), ("main", 1)),
                      (("main", 1), ("irq", 1)), (["main", 1],), (("main", True),), (("main", 3),), (("main", 0),),
                      (("main", 1), None), (None, ("main", 1)), (("irq", 1), ("main", 3)), {("main", 1): 1}):
            if value != ():
                self.assertTrue(same(Held(system, value, verdict, runs).fault(), ("chosen",)))
                # it is looked at first
                self.assertTrue(same(Held(system, value, None, None).fault(), ("chosen",)))
        # a gap that the system holds already is none
        more = system.with_holds(("main", 1))
        self.assertTrue(same(Held(more, chosen, verdict, ()).fault(), ("chosen",)))
        self.assertIs(Held(more, (), verdict, ()).fault(), None)

    def test_verdicts(self):
        system, chosen, verdict, runs = self.answer()
        others = (judge(system), judge(system.with_holds(("main", 2))), Safe(system, verdict.tables), verdict.tables[0])
        for value in (*ODD_VALUES, *others, (verdict,), [verdict], judge(system.with_holds(("irq", 1), ("main", 1)))):
            self.assertTrue(same(Held(system, chosen, value, runs).fault(), ("verdict",)))
            self.assertTrue(same(Held(system, chosen, value, None).fault(), ("verdict",)))
        for tables in ((), (5,), [Table(verdict.tables[0].unit, verdict.tables[0].levels[:-1])]):
            spoilt = Safe(verdict.system, tables)
            self.assertTrue(same(Held(system, chosen, spoilt, runs).fault(), ("safe", spoilt.fault())))
            self.assertTrue(same(Held(system, chosen, spoilt, 7).fault(), ("safe", spoilt.fault())))
        # an equal system is as good
        self.assertIs(Held(both(), chosen, Safe(both().with_holds(*chosen), verdict.tables), runs).fault(), None)
        more = (("irq", 1), ("main", 1))
        self.assertTrue(same(Held(system, more, verdict, runs).fault(), ("verdict",)))

    def test_runs(self):
        system, chosen, verdict, runs = self.answer()
        for value in (*ODD_VALUES, list(runs), {BAD: 1}):
            if not isinstance(value, tuple):
                self.assertTrue(same(Held(system, chosen, verdict, value).fault(), ("runs",)))
            for rows in ((value,), (*runs, value), (*runs, value, 5)):
                fault = Held(system, chosen, verdict, rows).fault()
                self.assertTrue(same(fault, ("run", len(rows[:rows.index(value)]), run_fault(system, value))))
        self.assertTrue(same(Held(system, chosen, verdict, (BAD, BAD[:3])).fault(), ("run", 1, ("good", 2))))

    def test_ahead(self):
        system, chosen, verdict, runs = self.answer()
        self.assertIs(Held(system, chosen, verdict, (BAD, BAD)).fault(), None)
        self.assertTrue(same(Held(system, chosen, verdict, ()).fault(), ("ahead", ())))
        for more, wanted in (((("irq", 1), ("main", 1)), (("main", 1),)), ((("main", 1), ("main", 2)), (("main", 1),))):
            safe = judge(system.with_holds(*more))
            self.assertTrue(same(Held(system, more, safe, (BAD,)).fault(), ("ahead", wanted)))
            self.assertTrue(same(Held(system, more, safe, ()).fault(), ("ahead", ())))
        # nothing is ahead of no gaps
        safe = System.of_text(READY)
        self.assertIs(Held(safe, (), judge(safe), ()).fault(), None)

    def test_equally_long_ones_ahead(self):
        system = System.of_text(BOTH.replace("read a S w", "read a S w\nread a S w"))
        found = fewest_holds(system)
        self.assertEqual((found.chosen, found.fault()), ((("main", 2),), None))
        # with no runs but one that uses both, the first gap of main is ahead of the second one
        run = moves_of("main irq irq irq READY.0 main irq irq READY.0 irq main")
        self.assertEqual(used_gaps(system, run), (("main", 1), ("main", 2)))
        answer = Held(system, found.chosen, found.verdict, (run,))
        self.assertTrue(same(answer.fault(), ("ahead", (("main", 1),))))
        for chosen in choices_told(system):
            if safe_with(system, *chosen):
                answer = Held(system, chosen, judge(system.with_holds(*chosen)), found.runs)
                ahead = [other for other in choices_told(system) if (len(other), other) < (len(chosen), chosen)
                         and all(set(other) & set(gaps_told(system, run)) for run in found.runs)]
                self.assertTrue(same(answer.fault(), ("ahead", ahead[0]) if ahead else None))

    def test_later_changes_have_no_effect(self):
        inner = [1]
        answer = Held(both(), (inner,), [inner], {"a": inner})
        unheld = Unheld(both(), (inner,))
        inner.append(2)
        self.assertTrue(same((answer.chosen, answer.verdict, answer.runs), (([1],), [[1]], {"a": [1]})))
        self.assertTrue(same(unheld.run, ([1],)))
        self.assertIs([1] in answer, True)


class UnheldFaults(unittest.TestCase):
    def test_any_value(self):
        system = System.of_text(EARLY)
        run = fewest_holds(system).run
        for value in (*ODD_VALUES, list(run), run[:3], (*run, None), (*run, run[0])):
            unheld = Unheld(run=value, system=system)
            self.assertIs(unheld.can_help, False)
            self.assertIs(unheld.system, system)
            self.assertTrue(same(unheld.run, value))
            self.assertTrue(same(unheld.fault(), ("run", run_fault(system, value))))
        self.assertIs(Unheld(system, run).fault(), None)

    def test_used_gaps(self):
        self.assertTrue(same(Unheld(both(), BAD).fault(), ("used", (("main", 1),))))
        longer = (*moves_of("main main irq irq irq main"), *BAD)
        self.assertIs(run_fault(both(), longer), None)
        self.assertTrue(same(Unheld(both(), longer).fault(), ("used", (("main", 1), ("main", 2)))))


class Fewest(unittest.TestCase):
    def test_the_example(self):
        found = fewest_holds(system=both())
        self.assertIs(found.__class__, Held)
        self.assertTrue(same((found.chosen, found.fault()), ((("main", 1),), None)))
        self.assertTrue(found.runs)

    def test_a_safe_system(self):
        found = fewest_holds(System.of_text(READY))
        self.assertTrue(same((found.can_help, found.chosen, len(found), found.fault()), (True, (), 0, None)))

    def test_no_holds_help(self):
        found = fewest_holds(System.of_text(EARLY))
        self.assertIs(found.__class__, Unheld)
        self.assertTrue(same((found.can_help, found.fault()), (False, None)))
        # the shortest bad run uses a gap, but another one uses none
        text = BOTH.replace("serve b 1", "serve b 1\nserve b 1")
        found = fewest_holds(System.of_text(text))
        self.assertTrue(same((found.can_help, found.fault()), (False, None)))

    def test_what_is_too_large(self):
        for text in (OVER, VAST):
            refused(self, TooLarge, {"limit": 1000}, fewest_holds, System.of_text(text))
        self.assertIs(fewest_holds(System.of_text(FULL)).fault(), None)

    def test_drawn_systems(self):
        draw, found = random.Random(101), []
        for _ in range(250):
            system = drawn_system(draw)
            if len(system.tasks) == 1 and draw.random() < 0.7:
                continue
            try:
                many = sum(len(level) for unit in units_of(system) for level in levels_of(unit))
            except OverflowError:
                refused(self, TooLarge, {"limit": 1000}, fewest_holds, system)
                continue
            answer = fewest_holds(system)
            self.assertIs(answer.fault(), None)
            if answer.can_help:
                held = system.with_holds(*answer.chosen)
                self.assertEqual([table.levels for table in answer.verdict.tables],
                                 [table.levels for table in judge(held).tables])
                if many < 400:
                    first = next(chosen for chosen in choices_told(system) if safe_with(system, *chosen))
                    self.assertTrue(same(answer.chosen, first))
                found.append(len(answer))
            else:
                self.assertEqual(gaps_told(system, answer.run), ())
                self.assertIs(safe_with(system, *system.gaps), False)
                found.append(None)
        self.assertTrue({None, 0, 1} <= set(found), set(found))

    def test_drawn_settings_of_one_register(self):
        """Tasks of one register that read it and write it back: often several gaps must be held."""
        draw, found = random.Random(102), []
        for _ in range(40):
            rows = ["width 8", "port S", "field A 0 1 keep store still 0", "field B 1 1 keep store still 0",
                    f"field C 2 1 {draw.choice(('keep clear1 raise', 'keep store still'))} 0"]
            for name in draw.sample(("main", "irq", "tick"), draw.choice((2, 3))):
                rows += [f"task {name} {draw.randrange(2)} {draw.randrange(3)}", "read a S w"]
                rows += ["read a S w"] * draw.randrange(2)
                word = draw.choice((0, 1, 2))
                rows += [f"write S w a 0 {3 - 2 ** word % 3} {2 ** word % 3} means {'ABC'[word]}"]
            system = System.of_text("\n".join(rows))
            answer = fewest_holds(system)
            self.assertIs(answer.fault(), None)
            if answer.can_help:
                first = next(chosen for chosen in choices_told(system) if safe_with(system, *chosen))
                self.assertTrue(same(answer.chosen, first))
            found.append(len(answer) if answer.can_help else None)
        self.assertTrue({1, 2} <= set(found), set(found))

    def test_the_same_answer_for_equal_systems(self):
        for text in (BOTH, THREE, EARLY):
            one, other = fewest_holds(System.of_text(text)), fewest_holds(System.of_text(text))
            self.assertTrue(same(getattr(one, "runs", getattr(one, "run", None)),
                                 getattr(other, "runs", getattr(other, "run", None))))

    def test_runs_of_held_systems(self):
        """A set of gaps makes a system safe just if each bad run uses one: the shortest run that uses none shows it."""
        system = System.of_text(THREE)
        for chosen in choices_told(system):
            held = system.with_holds(*chosen)
            runs = [least_bad_run(unit) for unit in units_of(held)]
            self.assertEqual(safe_with(system, *chosen), runs == [None])
            for run in runs:
                if run is not None:
                    self.assertIs(run_fault(system, run), None)
                    self.assertFalse(set(used_gaps(system, run)) & set(chosen))
        self.assertEqual(len(units_of(system)), 1)
        self.assertEqual(Unit.of_all(system).members, units_of(system)[0].members)


if __name__ == "__main__":
    unittest.main()
