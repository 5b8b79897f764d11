"""Runs: rows of moves from the start, and whether they are bad."""

from keptbits.errors import NotEnabled
from keptbits.searches import Search
from keptbits.units import Unit


def followed_run(system, value):
    """(the fault of any value as a bad run of a system, or None; the faults of its last move, or no faults)."""
    if not isinstance(value, tuple) or len(value) == 0:
        return ("form",), ()
    unit = Unit.of_all(system)
    state = unit.start
    wrongs = ()
    for k, move in enumerate(value):
        if wrongs != ():
            return ("early", k - 1), ()
        try:
            state, wrongs = unit.after(state, move)
        except NotEnabled:
            return ("move", k), ()
    if wrongs == ():
        return ("good", len(value) - 1), ()
    return None, wrongs


def run_fault(system, value):
    """None for a bad run of which only the last move has faults, otherwise what is wrong first."""
    wrong, _ = followed_run(system, value)
    return wrong


def shortest_run(unit):
    """The least of the shortest bad runs over a unit, or None."""
    return Search(unit).first_bad_run(())
