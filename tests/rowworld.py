"""Rows of accesses, told a second time over all bits, keys and variables of a map at once, for the tests to compare with."""

from itertools import product

from keptbits.steps import Read, Write
from keptbits.systems import System
from keptbits.tasks import Task
from world import World


def items_told(layout, rows):
    """All items of rows, in order."""
    loaded = {(step.variable, j) for row in rows for step in row if isinstance(step, Read)
              for j, name, i in layout.touched(step.port, step.lane)}
    return ([("bit", name, i) for name, i in layout.bits] + [("key", port.name) for port in layout if hasattr(port, "constants")]
            + [("var", *bit) for bit in sorted(loaded)])


def values_told(layout, item):
    if item[0] == "key":
        return range(len(layout[item[1]].constants) + 1)
    if item[0] == "var":
        return range(2)
    field = layout[item[1]]
    return range(4 if field.writing == "once" or field.commit or field.held else 2)


def starts_told(layout, items):
    return list(product(*[values_told(layout, item) for item in items if item[0] != "var"]))


def meet(layout, row, one, other):
    """Whether the first of two items needs the second one in a row, as [21] tells."""
    if one[0] == "bit":
        field = layout[one[1]]
        if other in (("bit", field.lock, 0), ("key", field.key), ("bit", field.commit, 0)):
            return True
    if {one[0], other[0]} != {"bit", "var"}:
        return False
    bit, var = (one, other) if one[0] == "bit" else (other, one)
    for step in row:
        for j, name, i in layout.touched(step.port, step.lane):
            if (name, i) != bit[1:] or step.variable != var[1]:
                continue
            if isinstance(step, Read) and j == var[2]:
                return one[0] == "var" or layout[name].device == "raise"
            if isinstance(step, Write) and one[0] == "bit" and (j, var[2]) in list(step.blend.sources()):
                return True
    return False


def components_told(layout, rows):
    items = items_told(layout, rows)
    groups = [{item} for item in items]
    for one in items:
        for other in items:
            if any(meet(layout, row, one, other) for row in rows or [[]]):
                joined = [group for group in groups if one in group or other in group]
                groups = [group for group in groups if group not in joined] + [set().union(*joined)]
    rows = [tuple(item for item in items if item in group) for group in groups]
    return tuple(sorted(rows, key=lambda row: items.index(row[0])))


class RowWorld:
    """A map on which a row is done, with the values of all its items."""

    def __init__(self, layout, items):
        port = next(iter(layout)).name
        self.layout, self.items = layout, items
        self.task = Task("row", Read("z", port, "w"))
        self.world = World(System(layout, self.task))

    def put(self, state):
        world = self.world
        world.words = {}
        for item, value in zip(self.items, state, strict=True):
            if item[0] == "bit":
                cell, field = world.bits[item[1:]], self.layout[item[1]]
                cell.value, cell.token = value % 2, None
                cell.second, cell.spent = (value // 2, 0) if field.commit or field.held else (0, value // 2)
            elif item[0] == "key":
                world.progress[item[1]] = value
            else:
                world.words.setdefault(("row", item[1]), {})[item[2]] = (value, None)

    def state(self):
        world, found = self.world, []
        for item in self.items:
            if item[0] == "var":
                found.append(world.words.get(("row", item[1]), {}).get(item[2], (0, None))[0])
            else:
                found.append(world.value(item))
        return tuple(found)

    def after_step(self, state, step):
        self.put(state)
        act = self.world.read if isinstance(step, Read) else self.world.write
        if isinstance(step, Write) and step.variable is not None:
            # what a Read without bits of fields loads is all 0
            self.world.words.setdefault(("row", step.variable), {})
        act(self.task, step)
        return self.state()

    def deeds(self, state):
        """The moves of the device at a state, ascending, with the states behind them."""
        found = []
        for item, value in zip(self.items, state, strict=True):
            device = self.layout[item[1]].device if item[0] == "bit" else "still"
            if device == "drift" or device == "raise" and value % 2 == 0 or device == "end" and value % 2 == 1:
                self.put(state)
                self.world.deed(*item[1:])
                found.append((("device", *item[1:]), self.state()))
        return sorted(found)

    def spread(self, states):
        found, waiting = set(states), list(states)
        while waiting:
            for move, after in self.deeds(waiting.pop()):
                if after not in found:
                    found.add(after)
                    waiting.append(after)
        return found

    def reached(self, row, start):
        """The sets of the states that are reached ahead of each step and at the end."""
        full = start + (0,) * (len(self.items) - len(start))
        found = [self.spread([full])]
        for step in row:
            found.append(self.spread([self.after_step(state, step) for state in found[-1]]))
        return found

    def outcomes(self, row, kept, start):
        places = [k for k, item in enumerate(self.items) if item[0] != "var" or item[1] in kept]
        return {tuple(state[k] for k in places) for state in self.reached(row, start)[-1]}

    def fewest_moves(self, row, kept, start, outcome):
        """The number of moves of the shortest ways by which an outcome comes, or None."""
        full = start + (0,) * (len(self.items) - len(start))
        places = [k for k, item in enumerate(self.items) if item[0] != "var" or item[1] in kept]
        level, seen, many = {(0, full)}, {(0, full)}, 0
        while level:
            if any(done == len(row) and tuple(state[k] for k in places) == outcome for done, state in level):
                return many
            grown = {(done, after) for done, state in level for move, after in self.deeds(state)}
            grown |= {(done + 1, self.after_step(state, row[done])) for done, state in level if done < len(row)}
            level, many = grown - seen, many + 1
            seen |= level
        return None


def alike_told(layout, first, second, kept):
    """Whether two rows are alike, over all bits and keys at once."""
    items = items_told(layout, [first, second])
    world = RowWorld(layout, items)
    return all(world.outcomes(first, kept, start) == world.outcomes(second, kept, start)
               for start in starts_told(layout, items))
