"""Machines: whole systems that move."""

from keptbits.errors import Exhausted, InvalidMost, NoName, NothingToUndo, Stopped
from keptbits.units import Unit
from keptbits.words import is_int

HIGHEST_MOST = 1000000


class Moment:
    """All that changes of a machine: what it shows now, and, if it is logged, its last move and the moment before."""

    def __init__(self, shown, wrongs, number, limit, move=None, earlier=None):
        self.shown = shown
        self.wrongs = wrongs
        self.number = number
        self.limit = limit
        self.move = move
        self.earlier = earlier

    def limited(self, limit):
        """The same moment with another greatest number of moves."""
        return Moment(self.shown, self.wrongs, self.number, limit, self.move, self.earlier)


class Kept:
    """A moment to which a machine returns, and the one that was kept before."""

    def __init__(self, moment, outer):
        self.moment = moment
        self.outer = outer


class Trial:
    """A suite behind which a machine is as it was before."""

    def __init__(self, machine):
        self.machine = machine
        self.kept = None

    def __enter__(self):
        self.kept = Kept(self.machine.moment, self.kept)
        return self.machine

    def __exit__(self, kind, value, trace):
        machine = self.machine
        machine.moment = self.kept.moment
        self.kept = self.kept.outer
        return False


class Machine:
    """A system, over all its items, that starts and makes moves."""

    def __init__(self, system):
        self.system = system
        self.unit = Unit.of_all(system)
        self.spots = {field.name: [self.unit.order["bit", field.name, i] for i in range(field.size)]
                      for field in system.layout.fields}
        self.moment = Moment(self.unit.start, (), 0, None)

    @classmethod
    def of(cls, system, moves):
        """The machine after the moves of a list or tuple."""
        machine = cls(system)
        for move in moves:
            machine.do(move)
        return machine

    @property
    def state(self):
        """The state over all items."""
        return self.moment.shown

    @property
    def places(self):
        """The number of each task's next step."""
        return self.moment.shown[0]

    @property
    def done(self):
        """The number of moves."""
        return self.moment.number

    @property
    def faults(self):
        """The faults of the last move."""
        return self.moment.wrongs

    @property
    def most(self):
        """The greatest number of moves, or None."""
        return self.moment.limit

    @most.setter
    def most(self, value):
        if value is not None and not (is_int(value) and self.done <= value <= HIGHEST_MOST):
            raise InvalidMost(value)
        self.moment = self.moment.limited(value)

    def moves(self):
        """Yield the enabled moves, ascending."""
        yield from self.unit.enabled(self.state)

    def moment_behind(self, move, shown, wrongs):
        """The moment behind a move."""
        return Moment(shown, wrongs, self.done + 1, self.most)

    def do(self, move):
        """Make a move, and return its faults."""
        shown, wrongs = self.unit.after(self.state, move)
        if self.done == self.most:
            raise Exhausted(self.most)
        self.moment = self.moment_behind(move, shown, wrongs)
        return wrongs

    def do_all(self, *moves):
        """Make all moves or, if one raises, none; return the list of their faults."""
        before = self.moment
        found = None
        try:
            found = [self.do(move) for move in moves]
        finally:
            if found is None:
                self.moment = before
        return found

    def played(self, tasks, device):
        """Make the moves of `play`, and return the list of their faults."""
        found = []
        for name in tasks:
            if device is not None:
                for move in device(self.done):
                    found.append(self.do(move))
            found.append(self.do(("step", name)))
        return found

    def play(self, *tasks, device=None):
        """Make a step of each task, behind the moves that a hook tells; return the list of all faults."""
        before = self.moment
        found = None
        try:
            found = self.played(tasks, device)
        finally:
            if found is None:
                self.moment = before
        return found

    def twin(self):
        """An equal machine of the same class, which moves by itself."""
        other = self.of(self.system, ())
        other.moment = self.moment
        return other

    def trial(self):
        """An object for `with`, behind which the machine is as it was."""
        return Trial(self)

    def tried(self, work):
        """What a function of the machine returns, while the machine stays as it was."""
        with self.trial() as machine:
            return work(machine)

    def __getitem__(self, at):
        if at not in self:
            raise NoName(at)
        entries = self.state[1]
        return sum([(entries[place][0] & 1) << i for i, place in enumerate(self.spots[at])])

    def __contains__(self, x):
        return isinstance(x, str) and x in self.spots

    def __iter__(self):
        raise TypeError("a machine is not iterated over")

    def matches(self, other):
        """Whether another machine is of the same class and a like system, and shows the same."""
        return (self.__class__.__name__ == other.__class__.__name__ and self.system == other.system
                and self.state == other.state and self.done == other.done and self.faults == other.faults
                and self.most == other.most)

    def __eq__(self, other):
        return isinstance(other, Machine) and self.matches(other)

    def __repr__(self):
        return f"Machine({self.done} moves, {len(self.faults)} faults)"


class LoggedMachine(Machine):
    """A machine that knows its moves and can take them back."""

    @property
    def log(self):
        """The tuple of the moves."""
        found = []
        moment = self.moment
        while moment.earlier is not None:
            found.append(moment.move)
            moment = moment.earlier
        return tuple(found[::-1])

    def moment_behind(self, move, shown, wrongs):
        """The moment behind a move, with the way back."""
        return Moment(shown, wrongs, self.done + 1, self.most, move, self.moment)

    def back(self, number=1):
        """Take back the last moves, so many."""
        if not is_int(number) or not 1 <= number <= self.done:
            raise NothingToUndo(number)
        moment = self.moment
        for _ in range(number):
            moment = moment.earlier
        self.moment = moment.limited(self.most)

    def __eq__(self, other):
        return isinstance(other, LoggedMachine) and self.matches(other) and self.log == other.log

    def __repr__(self):
        return f"LoggedMachine({self.done} moves, {len(self.faults)} faults)"


class StoppedMachine(LoggedMachine):
    """A logged machine that makes no move behind faults."""

    def do(self, move):
        """Make a move, and return its faults."""
        if self.faults != ():
            raise Stopped(self.faults)
        return super().do(move)

    def __repr__(self):
        return f"StoppedMachine({self.done} moves, {len(self.faults)} faults)"


def assign_most(machine, value):
    """Assign the greatest number of moves of a machine."""
    machine.most = value
