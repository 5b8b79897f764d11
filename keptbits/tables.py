"""Tables: units with levels of states, which show that there is no bad run."""

from keptbits.anyvalues import copied, spelling
from keptbits.searches import Search


class Table:
    """A unit and a tuple of values for each level.

    Values are compared by their spellings, since any values can be listed and kinds count. The spelling of a state,
    in which there is no dict, is what `repr` tells.
    """

    MOST = 1000

    def __init__(self, unit, levels):
        self.unit = unit
        self.levels = tuple([copied(level) for level in levels])
        # (level, index, spelling) of each value
        self.listed = [(k, i, spelling(value)) for k, level in enumerate(self.levels) if isinstance(level, tuple)
                       for i, value in enumerate(level)]
        self.first_spots = {}
        for k, i, spelt in self.listed:
            self.first_spots.setdefault(spelt, (k, i))

    @classmethod
    def of(cls, unit, *, depth=None):
        """The table with the levels of a unit, or the first ones, so many."""
        levels = Search(unit).first_levels(depth)
        return cls(unit, levels)

    def fault(self, *, depth=None):
        """None, or the first reason why the table does not show that the unit has no bad run."""
        if not self.is_formed(depth):
            return ("form",)
        for k, i, spelt in self.listed:
            if self.first_spots[spelt] != (k, i):
                return "twice", k, i
        if len(self.levels) > 0 and not self.is_listed_up_to(0, repr(self.unit.start)):
            return ("start",)
        return self.wrong_move(depth)

    def is_formed(self, depth):
        """Whether each level is a tuple of some values, and there are as many levels as there can be."""
        if not all([isinstance(level, tuple) and len(level) > 0 for level in self.levels]):
            return False
        if depth is None:
            return len(self.levels) > 0
        return len(self.levels) <= depth and (len(self.levels) > 0 or depth == 0)

    def is_listed_up_to(self, k, spelt):
        """Whether a value is listed in one of the levels from 0 to k."""
        return spelt in self.first_spots and self.first_spots[spelt][0] <= k

    def reached_moves(self):
        """For each reached value, by its spelling, the list of (move, spelling of the state after, faults)."""
        found = {}
        waiting = [self.unit.start]
        while len(waiting) > 0:
            state = waiting.pop()
            if repr(state) in found or repr(state) not in self.first_spots:
                continue
            moves = []
            for move in self.unit.enabled(state):
                after, wrongs = self.unit.after(state, move)
                moves.append((move, repr(after), wrongs))
                waiting.append(after)
            found[repr(state)] = moves
        return found

    def wrong_move(self, depth):
        """The first fault of a move from a reached value, or of a value that is not reached, or None."""
        reached = self.reached_moves()
        for k, i, spelt in self.listed:
            for move, after, wrongs in reached.get(spelt, []):
                if wrongs != ():
                    return "fault", k, i, move
                # behind the last level of a depth no run is told of
                if (depth is None or k != depth - 1) and not self.is_listed_up_to(k + 1, after):
                    return "leads", k, i, move
        for k, i, spelt in self.listed:
            if spelt not in reached:
                return "idle", k, i
        return None

    def __getitem__(self, at):
        return self.levels[at]

    def __contains__(self, x):
        return spelling(x) in self.first_spots

    def __len__(self):
        return len(self.listed)

    def __iter__(self):
        return iter(self.levels)

    def __repr__(self):
        return f"Table({len(self.levels)} levels, {len(self.listed)} states)"
