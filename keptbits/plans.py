"""What moves do to the items of a unit, worked out ahead of all states."""

from keptbits.kinds import SPENT
from keptbits.scenes import LATCHED, SERVED, UNSERVED
from keptbits.steps import Read, Serve, Write
from keptbits.writes import WritePlan, bits_in, note_moved, unmeant_bits

COPY_SHIFT = 1


def items_like(order, *head):
    """The list of the items of an order that begin with these parts."""
    return [item for item in order if item[:len(head)] == head]


class DeedPlan:
    """A deed of the device at a bit."""

    def __init__(self, order, field, i):
        self.name = field.name
        self.number = i
        self.device = field.device
        self.at = order["bit", field.name, i]

    def is_enabled(self, state):
        """Whether the device can do the deed in a state."""
        places, entries, tokens = state
        cell, token = entries[self.at]
        if self.device == "raise":
            return cell & 1 == 0 or token == 0 or tokens[token - 1][2] == SERVED
        return self.device == "drift" or cell & 1 == 1

    def perform(self, scene):
        """Carry out the deed."""
        if self.device == "raise":
            scene.cells[self.at] = scene.cells[self.at] | 1
            scene.renew(self.at, (self.name, self.number, UNSERVED))
        else:
            scene.cells[self.at] = scene.cells[self.at] ^ 1
            scene.holding[self.at] = 0


def load_of(layout, order, touched, item):
    """(index of a variable's bit, index of the bit that a Read of some bits loads into it or None, its part)."""
    for j, name, i in touched:
        if j == item[3]:
            return order[item], order["bit", name, i], 0 if layout[name].held is None else COPY_SHIFT
    return order[item], None, 0


def sight_of(layout, order, touched, item):
    """(index of a variable's mark, index of the latch that a Read of some bits shows to it or None)."""
    shown = [name for j, name, i in touched]
    if item[3] in shown or layout[item[3]].held in shown:
        return order[item], order["latch", item[3]]
    return order[item], None


class ReadPlan:
    """What a Read of a task does to the items of a unit, which have the indexes of an order."""

    def __init__(self, layout, order, task, step):
        touched = layout.touched(step.port, step.lane)
        acted = [(name, i) for j, name, i in touched] + list(layout.beside(step.port, step.lane))
        names = [name for name, i in acted]
        latched = [field.name for field in layout.fields if field.held in names]
        self.copied = bits_in(order, [(name, i) for name, i in layout.bits if name in latched])
        self.latches = [(order["latch", name], name) for name in latched if ("latch", name) in order]
        self.taken = bits_in(order, [(name, i) for name, i in acted if layout[name].reading == "take"])
        self.others = unmeant_bits(layout, order, step.means)
        self.loads = [load_of(layout, order, touched, item)
                      for item in items_like(order, "var", task, step.variable)]
        self.sights = [sight_of(layout, order, touched, item)
                       for item in items_like(order, "mark", task, step.variable)]

    def perform(self, scene):
        """Carry out the Read."""
        before = list(scene.cells)
        for at in self.copied:
            scene.cells[at] = (scene.cells[at] & 1) * 3
        for at, name in self.latches:
            scene.renew(at, (name, 0, LATCHED))
        for at, origin, part in self.loads:
            scene.load(at, origin, part)
        for at, origin in self.sights:
            scene.holding[at] = 0 if origin is None else scene.holding[origin]
        for at in self.taken:
            scene.cells[at] = scene.cells[at] & SPENT
            scene.holding[at] = 0
        note_moved(scene, before, self.others)


class ServePlan:
    """What a Serve of a task does to the items of a unit."""

    def __init__(self, order, task, step):
        self.task = task
        self.variable = step.variable
        self.masked = [(order[item], item[3]) for item in items_like(order, "var", task, step.variable)
                       if (step.mask >> item[3]) & 1 == 1]

    def perform(self, scene):
        """Carry out the Serve."""
        for at, j in self.masked:
            if scene.cells[at] == 1 and not scene.serve(at):
                scene.wrongs.append(("extra", self.task, self.variable, j))


class PairPlan:
    """What a Pair of a task finds in the items of a unit."""

    def __init__(self, order, task, step):
        self.first = order.get(("mark", task, step.first, step.field))
        self.second = order.get(("mark", task, step.second, step.field))
        self.wrong = ("torn", task, step.first, step.second, step.field)

    def perform(self, scene):
        """Carry out the Pair."""
        if self.first is None or self.second is None:
            return
        if scene.holding[self.first] != scene.holding[self.second]:
            scene.wrongs.append(self.wrong)


def plan_of(layout, order, task, step):
    """The plan of a step of the task of this name."""
    if isinstance(step, Read):
        return ReadPlan(layout, order, task, step)
    if isinstance(step, Write):
        return WritePlan(layout, order, task, step)
    if isinstance(step, Serve):
        return ServePlan(order, task, step)
    return PairPlan(order, task, step)


class TaskPlan:
    """The steps of a task of a system, one after another."""

    def __init__(self, system, order, number):
        layout = system.layout
        task = system.tasks[number]
        self.number = number
        self.rows = [plan_of(layout, order, task.name, step) for step in task.steps]
        self.own = [order[item] for word in ("var", "mark") for item in items_like(order, word, task.name)]
        self.rivals = [(k, other.core == task.core and other.rank >= task.rank, other.holds)
                       for k, other in enumerate(system.tasks) if k != number]
        self.mirrored = [(order["bit", first, i], order["bit", second, i], ("parted", first, second, i))
                         for first, second in system.mirrors for i in range(layout[first].size)
                         if ("bit", first, i) in order and ("bit", second, i) in order]

    def is_enabled(self, state):
        """Whether the next step can be done in a state."""
        places, entries, tokens = state
        for k, is_ahead, holds in self.rivals:
            if (is_ahead and places[k] != 0) or places[k] in holds:
                return False
        return True

    def perform(self, scene):
        """Carry out the next step."""
        place = scene.spots[self.number]
        row = self.rows[place]
        row.perform(scene)
        if place + 1 < len(self.rows):
            scene.spots[self.number] = place + 1
            return
        scene.spots[self.number] = 0
        for at in self.own:
            scene.blank(at)
        if scene.spots == [0] * len(scene.spots):
            self.note_parted(scene)

    def note_parted(self, scene):
        """Note the fault of each bit in which the fields of a mirror differ."""
        for one, other, fault in self.mirrored:
            if scene.cells[one] & 1 != scene.cells[other] & 1:
                scene.wrongs.append(fault)


def plans_of(system, order):
    """For each move at the items of an order, ascending, its plan."""
    fields = [system.layout[name] for name in sorted([field.name for field in system.layout.fields])]
    found = {}
    for field in fields:
        for i in range(field.size):
            if field.device != "still" and ("bit", field.name, i) in order:
                found["device", field.name, i] = DeedPlan(order, field, i)
    numbers = {task.name: k for k, task in enumerate(system.tasks)}
    for name in sorted(list(numbers)):
        found["step", name] = TaskPlan(system, order, numbers[name])
    return found
