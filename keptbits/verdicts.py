"""Verdicts: tables, and perhaps a run, that show whether a system is safe."""

from keptbits.anyvalues import copied
from keptbits.runs import followed_run
from keptbits.tables import Table
from keptbits.units import units_of


class Verdict:
    """A system and a table for each of its units."""

    def __init__(self, system, tables):
        self.system = system
        self.tables = tuple([copied(table) for table in tables])

    @property
    def is_safe(self):
        """Whether the verdict is that the system is safe."""
        return False

    @property
    def depth(self):
        """The depth of the tables, or None."""
        return None

    def fault(self):
        """None, or the first reason why the verdict does not show what it says."""
        units = units_of(self.system)
        if len(units) != len(self.tables):
            return ("tables",)
        for k, unit in enumerate(units):
            table = self.tables[k]
            if not isinstance(table, Table) or table.unit != unit:
                return "unit", k
            wrong = table.fault(depth=self.depth)
            if wrong is not None:
                return "table", k, wrong
        return None

    def __len__(self):
        return len(self.tables)


class Safe(Verdict):
    """The verdict that a system has no bad run."""

    @property
    def is_safe(self):
        """Whether the verdict is that the system is safe."""
        return True

    def __repr__(self):
        many = sum([len(table) for table in self.tables if isinstance(table, Table)])
        return f"Safe({len(self.tables)} units, {many} states)"


class Bad(Verdict):
    """The verdict that a run is a bad one and that none is shorter."""

    def __init__(self, system, run, tables):
        super().__init__(system, tables)
        self.run = copied(run)
        self.run_wrong, self.run_faults = followed_run(system, run)

    @property
    def depth(self):
        """The number of moves that no bad run has."""
        return len(self.run) - 1 if isinstance(self.run, tuple) and len(self.run) > 0 else 0

    @property
    def faults(self):
        """The faults of the last move of the run, if it is as it must be."""
        return self.run_faults

    def fault(self):
        """None, or the first reason why the verdict does not show what it says."""
        if self.run_wrong is not None:
            return "run", self.run_wrong
        return super().fault()

    def __repr__(self):
        return f"Bad({self.depth + 1} moves, {len(self.tables)} units)"
