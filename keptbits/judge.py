"""The judge of systems."""

from keptbits.searches import Search, first_of_bad_runs
from keptbits.tables import Table
from keptbits.units import units_of
from keptbits.verdicts import Bad, Safe


def judge(system):
    """The verdict about a system: Safe with the levels of its units, or Bad with the first bad run."""
    searches = [Search(unit) for unit in units_of(system)]
    run = first_of_bad_runs(searches, ())
    if run is None:
        return Safe(system, [Table(search.unit, search.first_levels()) for search in searches])
    return Bad(system, run, [Table(search.unit, search.first_levels(len(run) - 1)) for search in searches])
