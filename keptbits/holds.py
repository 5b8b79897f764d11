"""Holds: gaps that must be held for a system to be safe."""

from keptbits.anyvalues import copied, spelling
from keptbits.choices import all_choices
from keptbits.judge import judge
from keptbits.runs import run_fault
from keptbits.searches import Search, crossed_gaps, first_of_bad_runs
from keptbits.units import Unit, units_of
from keptbits.verdicts import Safe
from keptbits.words import is_plain


def used_gaps(system, run):
    """The ascending tuple of the gaps that a tuple of moves uses."""
    unit = Unit.of_all(system)
    state = unit.start
    found = []
    for move in run:
        after, _ = unit.after(state, move)
        found.extend(crossed_gaps(system, state[0], move))
        state = after
    return tuple(sorted(set(found)))


def safe_with(system, *gaps):
    """Whether a system is safe if these gaps are held, too."""
    return judge(system.with_holds(*gaps)).is_safe


def are_ascending_gaps(system, value):
    """Whether any value is an ascending tuple of gaps of a system."""
    if not isinstance(value, tuple) or not all([is_plain(gap) and gap in system.gaps for gap in value]):
        return False
    return list(value) == sorted(set(value))


def first_choice(system, uses):
    """The first ascending tuple of gaps of a system that has one of each of some tuples, or None."""
    for chosen in all_choices(sorted(system.gaps)):
        if all([any([gap in chosen for gap in used]) for used in uses]):
            return chosen
    return None


class Holding:
    """The base of both answers to the question which gaps must be held."""

    def __init__(self, system):
        self.system = system

    @property
    def can_help(self):
        """Whether some holds make the system safe."""
        return False

    def fault(self):
        """None, or the first reason why the answer is not shown to be right."""
        return None


class Held(Holding):
    """The gaps that must be held, a verdict that they are enough, and bad runs that fewer ones do not keep out."""

    def __init__(self, system, chosen, verdict, runs):
        super().__init__(system)
        self.chosen = copied(chosen)
        self.verdict = copied(verdict)
        self.runs = copied(runs)
        self.spelt = [spelling(gap) for gap in chosen] if isinstance(chosen, tuple) else []

    @property
    def can_help(self):
        """Whether some holds make the system safe."""
        return True

    def fault(self):
        """None, or the first reason why the answer is not shown to be right."""
        if not are_ascending_gaps(self.system, self.chosen):
            return ("chosen",)
        if not isinstance(self.verdict, Safe) or self.verdict.system != self.system.with_holds(*self.chosen):
            return ("verdict",)
        wrong = self.verdict.fault()
        if wrong is not None:
            return "safe", wrong
        return self.wrong_runs()

    def wrong_runs(self):
        """None, or the first reason why the runs do not show that gaps ahead of those chosen are not enough."""
        if not isinstance(self.runs, tuple):
            return ("runs",)
        for k, run in enumerate(self.runs):
            wrong = run_fault(self.system, run)
            if wrong is not None:
                return "run", k, wrong
        uses = [used_gaps(self.system, run) for run in self.runs]
        # the verdict shows that each bad run uses one of those chosen, so they are not ahead of the first choice
        first = first_choice(self.system, uses)
        return None if first == self.chosen else ("ahead", first)

    def __len__(self):
        return len(self.spelt)

    def __contains__(self, x):
        return spelling(x) in self.spelt


class Unheld(Holding):
    """A bad run that uses no gap, so that no holds help."""

    def __init__(self, system, run):
        super().__init__(system)
        self.run = copied(run)

    def fault(self):
        """None, or the first reason why the answer is not shown to be right."""
        wrong = run_fault(self.system, self.run)
        if wrong is not None:
            return "run", wrong
        gaps = used_gaps(self.system, self.run)
        if gaps != ():
            return "used", gaps
        return None


def fewest_holds(system):
    """Held with the fewest gaps that make a system safe if they are held, too; or Unheld."""
    searches = [Search(unit) for unit in units_of(system)]
    run = first_of_bad_runs(searches, system.gaps)
    if run is not None:
        return Unheld(system, run)
    runs = []
    uses = []
    chosen = ()
    run = first_of_bad_runs(searches, chosen)
    # A run that uses none of the chosen gaps rules them out, and with it all that were ahead of them are ruled out.
    while run is not None:
        runs.append(run)
        uses.append(used_gaps(system, run))
        chosen = first_choice(system, uses)
        run = first_of_bad_runs(searches, chosen)
    return Held(system, chosen, judge(system.with_holds(*chosen)), tuple(runs))
