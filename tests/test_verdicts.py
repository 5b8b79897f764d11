import random
import unittest

from drawn import drawn_system
from keptbits.errors import TooLarge
from keptbits.judge import judge
from keptbits.runs import run_fault
from keptbits.systems import System
from keptbits.tables import Table
from keptbits.units import Unit, units_of
from keptbits.verdicts import Bad, Safe, Verdict
from large import FULL, OVER, VAST
from samples import ODD_VALUES, refused, same
from search import is_safe, least_bad_run, levels_of
from test_moves import BOTH, EARLY, READY, moves_of

BAD = moves_of("READY.0 main main READY.0 main")
LOST = (("lost", "READY", 0),)
# two units: both are safe
TWO = """width 8
port S
field A 0 1 keep clear1 raise 0
field B 1 1 keep none drift 0
task main 0 0
read a S w
write S w a 0 1 0 means A
serve a 1"""
# two units, each with a bad run: that of B is shorter
TWO_BAD = TWO.replace("serve a 1", "serve a 1\nwrite S w a 0 3 0 means A").replace("keep none drift", "keep store drift")


def tables_of(system, depth=None):
    return [Table.of(unit, depth=depth) for unit in units_of(system)]


class Verdicts(unittest.TestCase):
    def test_what_is_shown(self):
        for text, many in ((READY, 1), (TWO, 2)):
            system = System.of_text(text)
            rows = tables_of(system)
            for tables in (rows, tuple(rows), [], [1], (None, rows)):
                for made in (Verdict, Safe):
                    verdict = made(tables=tables, system=system)
                    self.assertIs(verdict.system, system)
                    self.assertTrue(same(verdict.tables, tuple(tables)))
                    self.assertTrue(same(len(verdict), len(tables)))
                    self.assertIs(verdict.is_safe, made is Safe)
                    self.assertIs(verdict.depth, None)
            self.assertEqual(len(Safe(system, rows)), many)
        self.assertTrue(issubclass(Safe, Verdict) and issubclass(Bad, Verdict))

    def test_names(self):
        system = System.of_text(TWO)
        rows = tables_of(system)
        sizes = [len(table) for table in rows]
        self.assertEqual(repr(Safe(system, rows)), f"Safe(2 units, {sum(sizes)} states)")
        self.assertEqual(repr(Safe(system, [rows[0], 5, [1, 2], ()])), f"Safe(4 units, {sizes[0]} states)")
        self.assertEqual(repr(Safe(system, [Table(rows[0].unit, [(1, 2), [3]])])), "Safe(1 units, 2 states)")
        self.assertEqual(repr(Safe(system, ())), "Safe(0 units, 0 states)")
        self.assertEqual(repr(Bad(system, BAD, rows)), "Bad(5 moves, 2 units)")
        self.assertEqual(repr(Bad(system, 7, [])), "Bad(1 moves, 0 units)")

    def test_tables(self):
        for text in (READY, TWO):
            system = System.of_text(text)
            rows = tables_of(system)
            for made in (Verdict, Safe):
                self.assertIs(made(system, rows).fault(), None)
                for tables in ([], rows[:-1], [*rows, rows[0]], [*rows, None], [None] * (len(rows) + 1)):
                    self.assertTrue(same(made(system, tables).fault(), ("tables",)))
                for value in (*ODD_VALUES, rows[0].unit, rows[0].levels, (rows[0],), made(system, rows)):
                    for k in range(len(rows)):
                        self.assertTrue(same(made(system, [*rows[:k], value, *rows[k + 1:]]).fault(), ("unit", k)))

    def test_units(self):
        system = System.of_text(TWO)
        one, two = tables_of(system)
        self.assertTrue(same(Safe(system, [two, one]).fault(), ("unit", 0)))
        self.assertTrue(same(Safe(system, [one, one]).fault(), ("unit", 1)))
        self.assertTrue(same(Safe(system, [one, Table.of(Unit.of_all(system))]).fault(), ("unit", 1)))
        # an equal unit of an equal system is right, one of another system is not
        self.assertIs(Safe(System.of_text(TWO), [one, two]).fault(), None)
        held = system.with_holds(("main", 1))
        self.assertTrue(same(Safe(held, [one, two]).fault(), ("unit", 0)))
        self.assertTrue(same(Safe(held, [tables_of(held)[0], two]).fault(), ("unit", 1)))

    def test_faults_of_tables(self):
        system = System.of_text(TWO)
        one, two = tables_of(system)
        wrong = Table(two.unit, two.levels[:1])
        self.assertTrue(same(Safe(system, [one, wrong]).fault(), ("table", 1, wrong.fault())))
        self.assertTrue(same(Safe(system, [Table(one.unit, []), wrong]).fault(), ("table", 0, ("form",))))
        # first what is wrong with the first table
        self.assertTrue(same(Safe(system, [Table(one.unit, []), 5]).fault(), ("table", 0, ("form",))))
        self.assertTrue(same(Safe(system, [5, wrong]).fault(), ("unit", 0)))
        # a verdict that is safe has no depth
        self.assertTrue(same(Safe(system, [one, Table(two.unit, two.levels[:1])]).fault()[:2], ("table", 1)))

    def test_a_system_without_units(self):
        system = System.of_text("width 8\nport S\nkey K 1\ntask a 0 0\nread a S w")
        self.assertIs(Safe(system, []).fault(), None)
        self.assertTrue(same(Safe(system, [1]).fault(), ("tables",)))

    def test_later_changes_have_no_effect(self):
        system = System.of_text(READY)
        inner = [1]
        rows, run = [*tables_of(system), inner], ([2], {"a": [3]})
        verdict = Bad(system, run, rows)
        rows.append(5)
        inner.append(6)
        run[0].append(7)
        run[1]["a"].append(8)
        self.assertEqual(verdict.tables[1:], ([1],))
        self.assertTrue(same(verdict.run, ([2], {"a": [3]})))


class BadVerdicts(unittest.TestCase):
    def test_a_bad_verdict(self):
        system = System.of_text(EARLY)
        rows = tables_of(system, depth=4)
        verdict = Bad(run=BAD, tables=rows, system=system)
        self.assertTrue(same((verdict.run, verdict.depth, verdict.faults, verdict.is_safe), (BAD, 4, LOST, False)))
        self.assertEqual((len(verdict), verdict.tables, verdict.system), (1, tuple(rows), system))
        self.assertIs(verdict.fault(), None)

    def test_any_value_as_a_run(self):
        system = System.of_text(EARLY)
        rows = tables_of(system, depth=0)
        for value in (*ODD_VALUES, list(BAD), BAD[:4], BAD[0], (*BAD, BAD[0]), (BAD,)):
            verdict = Bad(system, value, rows)
            wanted = run_fault(system, value)
            self.assertTrue(same(verdict.run, value))
            self.assertTrue(same(verdict.depth, len(value) - 1 if isinstance(value, tuple) and value else 0))
            self.assertTrue(same(verdict.faults, ()))
            self.assertTrue(same(verdict.fault(), ("run", wanted)))
            self.assertEqual(repr(verdict), f"Bad({verdict.depth + 1} moves, 1 units)")
            # the run is looked at first
            self.assertTrue(same(Bad(system, value, [1, 2]).fault(), ("run", wanted)))

    def test_tables_with_a_depth(self):
        system = System.of_text(EARLY)
        for depth in range(7):
            wanted = tables_of(system)[0].unit
            table = Table.of(wanted, depth=depth)
            self.assertTrue(same(Bad(system, BAD, [table]).fault(),
                                 None if depth == 4 else ("table", 0, table.fault(depth=4))))
        self.assertTrue(same(Bad(system, BAD, []).fault(), ("tables",)))
        self.assertTrue(same(Bad(system, BAD, [7]).fault(), ("unit", 0)))
        # a longer bad run shows less than is told
        longer = (*BAD[:1], *moves_of("main main main"), *BAD)
        self.assertIs(run_fault(system, longer), None)
        verdict = Bad(system, longer, tables_of(system, depth=8))
        self.assertEqual((verdict.faults, verdict.fault()[:2]), (LOST, ("table", 0)))
        self.assertEqual(verdict.fault()[2][0], "fault")


class Judged(unittest.TestCase):
    def test_examples(self):
        verdict = judge(System.of_text(READY))
        self.assertIs(verdict.__class__, Safe)
        self.assertEqual((repr(verdict), verdict.fault()), ("Safe(1 units, 9 states)", None))
        verdict = judge(system=System.of_text(EARLY))
        self.assertIs(verdict.__class__, Bad)
        self.assertTrue(same((verdict.run, verdict.faults, verdict.depth), (BAD, LOST, 4)))
        self.assertEqual((repr(verdict), verdict.fault()), ("Bad(5 moves, 1 units)", None))
        verdict = judge(System.of_text(BOTH))
        self.assertTrue(same(verdict.run, moves_of("READY.0 main irq irq READY.0 irq main")))
        self.assertTrue(same((verdict.faults, verdict.fault()), (LOST, None)))
        for task in ("main", "irq"):
            self.assertIs(judge(System.of_text(BOTH).without(task)).is_safe, True)

    def test_several_units(self):
        verdict = judge(System.of_text(TWO))
        self.assertEqual((verdict.is_safe, len(verdict), verdict.fault()), (True, 2, None))
        self.assertEqual([table.levels for table in verdict.tables], [table.levels for table in tables_of(verdict.system)])
        system = System.of_text(TWO_BAD)
        verdict = judge(system)
        # the run of B is shorter than that of A, and its moves come later
        self.assertEqual([len(least_bad_run(unit)) for unit in units_of(system)], [6, 3])
        self.assertTrue(same((verdict.run, verdict.faults), (moves_of("B.0 main main"), (("moved", "B", 0),))))
        self.assertEqual([table.levels for table in verdict.tables],
                         [table.levels for table in tables_of(system, depth=2)])
        self.assertIs(verdict.fault(), None)

    def test_a_system_without_units(self):
        verdict = judge(System.of_text("width 8\nport S\nkey K 1\ntask a 0 0\nread a S w"))
        self.assertEqual((repr(verdict), verdict.fault(), verdict.is_safe), ("Safe(0 units, 0 states)", None, True))

    def test_a_run_of_one_move(self):
        text = "width 8\nport S\nfield A 0 1 keep store still 1\nfield B 1 1 keep store drift 1\ntask a 0 0\nwrite S w 0"
        verdict = judge(System.of_text(text))
        self.assertTrue(same((verdict.run, verdict.faults, verdict.depth),
                             (moves_of("a"), (("moved", "A", 0), ("moved", "B", 0)), 0)))
        self.assertEqual(([table.levels for table in verdict.tables], verdict.fault()), ([(), ()], None))

    def test_what_is_too_large(self):
        verdict = judge(System.of_text(FULL))
        self.assertEqual((len(verdict.run), verdict.fault()), (8, None))
        for text in (OVER, VAST):
            # also if the system has a bad run that is short
            refused(self, TooLarge, {"limit": 1000}, judge, System.of_text(text))

    def test_drawn_systems(self):
        draw, found = random.Random(90), []
        for _ in range(250):
            system = drawn_system(draw)
            try:
                levels = [levels_of(unit) for unit in units_of(system)]
            except OverflowError:
                refused(self, TooLarge, {"limit": 1000}, judge, system)
                continue
            verdict = judge(system)
            self.assertIs(verdict.fault(), None)
            self.check_run(system, verdict)
            for table, rows in zip(verdict.tables, levels, strict=True):
                self.assertTrue(same(table.levels, tuple(tuple(row) for row in rows[:verdict.depth])))
            found.append(verdict.is_safe)
        self.assertGreater(found.count(True), 10)
        self.assertGreater(found.count(False), 60)

    def check_run(self, system, verdict):
        """The verdict is the one that a search over all items tells, where that is not too long."""
        whole = Unit.of_all(system)
        try:
            if verdict.is_safe:
                self.assertIs(is_safe(whole, 3000), True)
            elif len(verdict.run) < 6:
                self.assertTrue(same(verdict.run, least_bad_run(whole)))
        except OverflowError:
            pass


if __name__ == "__main__":
    unittest.main()
