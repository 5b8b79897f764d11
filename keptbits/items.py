"""Items: what of a system changes, and which other items each of them needs."""

from keptbits.errors import NotClosed
from keptbits.fields import KeyRegister
from keptbits.steps import Pair, Read, Write
from keptbits.words import is_plain


def loads_of(layout, steps):
    """The list of (variable, j, field name, i) for each bit that some Read among steps loads into bit j."""
    return [(step.variable, j, name, i) for step in steps if isinstance(step, Read)
            for j, name, i in layout.touched(step.port, step.lane)]


def stores_of(layout, steps):
    """The list of (field name, i, variable, j) for each bit that some Write among steps takes from bit j."""
    found = []
    for step in steps:
        if isinstance(step, Write):
            origins = dict(step.blend.sources())
            found.extend([(name, i, step.variable, origins[place])
                          for place, name, i in layout.touched(step.port, step.lane) if place in origins])
    return found


def paired_of(layout, steps):
    """The list of (variable, field name) for both variables of each Pair, variables ascending, fields in order."""
    found = [(variable, step.field) for step in steps if isinstance(step, Pair)
             for variable in (step.first, step.second)]
    variables = sorted({variable for variable, name in found})
    return [(variable, field.name) for variable in variables for field in layout.fields
            if (variable, field.name) in found]


def items_of_map(layout):
    """The list of the bits of a map, and of its keys."""
    bits = [("bit", name, i) for name, i in layout.bits]
    return bits + [("key", port.name) for port in layout.registers if isinstance(port, KeyRegister)]


def items_of(system):
    """The tuple of all items of a system, in their order."""
    layout = system.layout
    paired = {task.name: paired_of(layout, task.steps) for task in system.tasks}
    named = [name for task in system.tasks for variable, name in paired[task.name]]
    latches = [("latch", field.name) for field in layout.fields if field.name in named]
    loaded = [("var", task.name, variable, j) for task in system.tasks
              for variable, j in sorted({load[:2] for load in loads_of(layout, task.steps)})]
    marks = [("mark", task.name, variable, name) for task in system.tasks for variable, name in paired[task.name]]
    return tuple(items_of_map(layout) + latches + loaded + marks)


def guards_of(field):
    """The list of the items that decide what a write does to a field."""
    found = []
    if field.lock is not None:
        found.append(("bit", field.lock, 0))
    if field.key is not None:
        found.append(("key", field.key))
    if field.commit is not None:
        found.append(("bit", field.commit, 0))
    return found


def needs_among(layout, items, rows):
    """For each of some items of a map and of rows (name of a task, steps), the tuple of those that it needs."""
    order = {item: place for place, item in enumerate(items)}
    found = {item: [] for item in items}
    for name, i in layout.bits:
        found["bit", name, i].extend(guards_of(layout[name]))
    for task, steps in rows:
        for name, i, variable, j in stores_of(layout, steps):
            found["bit", name, i].append(("var", task, variable, j))
        for variable, j, name, i in loads_of(layout, steps):
            found["var", task, variable, j].append(("bit", name, i))
            if layout[name].device == "raise":
                found["bit", name, i].append(("var", task, variable, j))
        for variable, name in paired_of(layout, steps):
            found["mark", task, variable, name].append(("latch", name))
    # a bit that no Read loads is no item: it is 0 all the time
    places = {item: sorted({order[other] for other in found[item] if other in order}) for item in items}
    return {item: tuple([items[place] for place in places[item]]) for item in items}


def needs_table(system):
    """For each item of a system, in their order, the tuple of those that it needs."""
    rows = [(task.name, task.steps) for task in system.tasks]
    return needs_among(system.layout, items_of(system), rows)


def check_items(table, items):
    """Raise NotClosed for the first of any values that is no item of a table of needs."""
    for item in items:
        if not is_plain(item) or item not in table:
            raise NotClosed(item)


def closed_over(table, items):
    """The closure of items by a table of needs, in the order of items."""
    found = {item: True for item in items}
    waiting = list(items)
    while len(waiting) > 0:
        item = waiting.pop()
        fresh = [other for other in table[item] if other not in found]
        for other in fresh:
            found[other] = True
            waiting.append(other)
    return tuple([item for item in table if item in found])


def needs(system, item):
    """The tuple of the items that an item needs itself, in their order."""
    table = needs_table(system)
    check_items(table, (item,))
    return table[item]


def closure(system, *items):
    """The tuple of some items and of all that they need, in their order."""
    table = needs_table(system)
    check_items(table, items)
    return closed_over(table, items)
