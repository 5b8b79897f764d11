"""Units: closed items of a system, over which its moves can be followed."""

from keptbits.errors import NotClosed, NotEnabled
from keptbits.fields import listed
from keptbits.items import check_items, closed_over, items_of, needs_table
from keptbits.plans import plans_of
from keptbits.scenes import LATCHED, Scene
from keptbits.steps import Pair, Serve
from keptbits.words import is_plain


def start_value(layout, item):
    """The value of an item at the start."""
    if item[0] != "bit":
        return 0
    field = layout[item[1]]
    bit = (field.reset >> item[2]) & 1
    # back copies and copies are like the bits
    return bit if field.commit is None and field.held is None else bit * 3


def start_of(system, members):
    """The state over some items at the start."""
    tokens = [(item[1], 0, LATCHED) for item in members if item[0] == "latch"]
    numbers = {("latch", name): k for k, (name, i, mark) in enumerate(tokens, 1)}
    entries = [(start_value(system.layout, item), numbers.get(item, 0)) for item in members]
    return tuple([0 for task in system.tasks]), tuple(entries), tuple(tokens)


class Unit:
    """Closed items of a system, in their order."""

    def __init__(self, system, *items):
        table = needs_table(system)
        check_items(table, items)
        given = {item: True for item in items}
        needed = {other: True for item in given for other in table[item]}
        for item in table:
            if item in needed and item not in given:
                raise NotClosed(item)
        self.system = system
        self.members = tuple([item for item in table if item in given])
        self.order = {item: at for at, item in enumerate(self.members)}
        self.plans = plans_of(system, self.order)
        self.start = start_of(system, self.members)

    @classmethod
    def of(cls, system, items):
        """The unit of the items of a list or tuple."""
        parts = listed(items)
        return cls(system, *parts)

    @classmethod
    def of_all(cls, system):
        """The unit of all items of a system."""
        parts = items_of(system)
        return cls(system, *parts)

    @classmethod
    def around(cls, system, *items):
        """The unit of the closure of some items."""
        table = needs_table(system)
        check_items(table, items)
        parts = closed_over(table, items)
        return cls(system, *parts)

    def enabled(self, state):
        """The list of the enabled moves, ascending."""
        return [move for move in self.plans if self.plans[move].is_enabled(state)]

    def moves(self, state):
        """Yield the enabled moves, ascending."""
        yield from self.enabled(state)

    def after(self, state, move):
        """The pair of the state after a move and its faults."""
        if not is_plain(move) or move not in self.plans:
            raise NotEnabled(move)
        plan = self.plans[move]
        if not plan.is_enabled(state):
            raise NotEnabled(move)
        scene = Scene(state)
        plan.perform(scene)
        return scene.result()

    def project(self, state, whole):
        """The state over these items, of a state over a unit that includes them."""
        places, entries, tokens = state
        scene = Scene((places, [entries[whole.order[item]] for item in self.members], tokens))
        mine, _ = scene.result()
        return mine

    def within(self, other):
        """Whether all items are in the other unit, too."""
        return all([item in other.order for item in self.members])

    def __contains__(self, x):
        return is_plain(x) and x in self.order

    def __len__(self):
        return len(self.members)

    def __iter__(self):
        return iter(self.members)

    def __eq__(self, other):
        return isinstance(other, Unit) and self.members == other.members and self.system == other.system

    def __repr__(self):
        return f"Unit({len(self.members)} items)"


def seeds_of(system, table):
    """The list of the seeds of the units: tuples of items."""
    seeds = [(item,) for item in table if item[0] == "bit"]
    for task in system.tasks:
        for step in task.steps:
            if isinstance(step, Serve):
                bits = [("var", task.name, step.variable, j) for j in range(system.layout.width)
                        if (step.mask >> j) & 1 == 1]
                seeds.extend([(item,) for item in bits if item in table])
            if isinstance(step, Pair):
                seeds.append(tuple([("mark", task.name, name, step.field) for name in (step.first, step.second)]))
    for first, second in system.mirrors:
        seeds.extend([(("bit", first, i), ("bit", second, i)) for i in range(system.layout[first].size)])
    return seeds


def units_of(system):
    """The tuple of the units of a system, ascending by their members."""
    table = needs_table(system)
    closures = sorted({closed_over(table, seed) for seed in seeds_of(system, table)})
    masks = []
    places = {item: place for place, item in enumerate(table)}
    for members in closures:
        masks.append(sum([1 << places[item] for item in members]))
    largest = [members for members, mask in zip(closures, masks)
               if not any([mask & other == mask and mask != other for other in masks])]
    return tuple([Unit.of(system, members) for members in largest])
