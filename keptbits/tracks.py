"""Tracks: what rows of accesses, done alone, do to the states of a component."""

from keptbits.errors import TooLarge
from keptbits.plans import plan_of
from keptbits.scenes import Scene
from keptbits.words import is_plain

# the name under which the items of a row's variables stand in plans
ROW = "row"
MOST_STATES = 64


def inner_item(item):
    """An item of rows as one of a task."""
    return ("var", ROW, item[1], item[2]) if item[0] == "var" else item


def outer_item(item):
    """An item of a task as one of rows."""
    return ("var", item[2], item[3]) if item[0] == "var" else item


def many_values(layout, item):
    """The number of values that an item of rows can have."""
    if item[0] == "key":
        return len(layout[item[1]].constants) + 1
    if item[0] == "var":
        return 2
    field = layout[item[1]]
    return 4 if field.writing == "once" or field.commit is not None or field.held is not None else 2


def all_states(layout, items):
    """The ascending list of the tuples of values of some items; raise TooLarge if there are too many."""
    many = 1
    for item in items:
        many = many * many_values(layout, item)
    if many > MOST_STATES:
        raise TooLarge(MOST_STATES)
    found = [()]
    for item in items:
        found = [(*state, value) for state in found for value in range(many_values(layout, item))]
    return found


def state_after(plan, state):
    """The state of a component behind a step."""
    scene = Scene(((), [(cell, 0) for cell in state], ()))
    plan.perform(scene)
    return tuple(scene.cells)


def deeds_from(layout, component, state):
    """The list of (move, state after) for the deeds at a state of a component, moves ascending."""
    found = []
    for at, item in enumerate(component):
        if item[0] == "bit":
            ends = layout[item[1]].kind.deeds(state[at])
            found.extend([(("device", item[1], item[2]), (*state[:at], end, *state[at + 1:])) for end in ends])
    return sorted(found)


def mask_of(numbers):
    """The mask in which the bits of these numbers are 1."""
    mask = 0
    for number in numbers:
        mask = mask | 1 << number
    return mask


def numbers_in(mask):
    """The ascending list of the numbers of the bits that are 1 in a mask."""
    return [number for number in range(mask.bit_length()) if (mask >> number) & 1 == 1]


class Track:
    """The states of a component, numbered as they ascend, and where the steps of a row and deeds lead from each."""

    def __init__(self, layout, row, component):
        self.component = component
        self.states = all_states(layout, component)
        self.order = {state: number for number, state in enumerate(self.states)}
        places = {inner_item(item): at for at, item in enumerate(component)}
        plans = [plan_of(layout, places, ROW, step) for step in row]
        self.whole = list(range(len(row)))
        self.steps = [[self.order[state_after(plan, state)] for state in self.states] for plan in plans]
        self.deeds_at = [[(move, self.order[after]) for move, after in deeds_from(layout, component, state)]
                         for state in self.states]
        self.spreads = [self.spread(number) for number in range(len(self.states))]

    def spread(self, number):
        """The mask of the numbers to which any number of deeds leads."""
        found = [number]
        at = 0
        while at < len(found):
            fresh = [after for move, after in self.deeds_at[found[at]] if after not in found]
            found.extend(fresh)
            at = at + 1
        return mask_of(found)

    def spread_of(self, numbers):
        """The mask of the numbers to which any number of deeds leads from some of these."""
        mask = 0
        for number in numbers:
            mask = mask | self.spreads[number]
        return mask

    def number_of(self, start):
        """The number of the state at a start, at which the variables are 0."""
        return self.order[start + (0,) * (len(self.component) - len(start))]

    def states_in(self, mask):
        """The ascending tuple of the states whose numbers are in a mask."""
        return tuple([self.states[number] for number in numbers_in(mask)])

    def reached_masks(self, start, indexes):
        """The list of the masks of what is reached from a start ahead of steps, by their indexes, and at the end."""
        found = [self.spreads[self.number_of(start)]]
        for index in indexes:
            step = self.steps[index]
            found.append(self.spread_of([step[number] for number in numbers_in(found[-1])]))
        return found

    def outcome(self, number, kept):
        """The outcome of a state for the kept variables."""
        return tuple([value for item, value in zip(self.component, self.states[number])
                      if item[0] != "var" or item[1] in kept])

    def outcomes(self, start, indexes, kept):
        """The ascending tuple of the outcomes of the steps with these indexes from a start."""
        last = self.reached_masks(start, indexes)[-1]
        return tuple(sorted({self.outcome(number, kept) for number in numbers_in(last)}))

    def told_masks(self, told):
        """The list of the masks of any value that is a tuple of tuples of states; None for any other."""
        if not isinstance(told, tuple) or not all([isinstance(stage, tuple) for stage in told]):
            return None
        if not all([is_plain(state) and state in self.order for stage in told for state in stage]):
            return None
        return [mask_of([self.order[state] for state in stage]) for stage in told]

    def is_shown(self, start, told):
        """Whether any value tells, for each step and the end, at least the states that are reached from a start."""
        masks = self.told_masks(told)
        if masks is None or len(masks) != len(self.steps) + 1:
            return False
        needs = [1 << self.number_of(start)]
        for step, mask in zip(self.steps, masks):
            needs.append(mask_of([step[number] for number in numbers_in(mask)]))
        # what is told is closed under deeds, and has what the step ahead of it leads to
        return all([(need | self.spread_of(numbers_in(mask))) & ~mask == 0 for need, mask in zip(needs, masks)])

    def leads(self, node):
        """The list of (move, next node) for a node (number of steps done, number of the state), moves ascending."""
        done, number = node
        found = [(move, (done, after)) for move, after in self.deeds_at[number]]
        if done < len(self.steps):
            found.append((("step", done), (done + 1, self.steps[done][number])))
        return found
