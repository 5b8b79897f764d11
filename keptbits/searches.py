"""Searches: all states to which moves lead over a unit, and the first way to a goal."""

from keptbits.errors import TooLarge

MOST_STATES = 1000
# where a move with faults leads when a bad run is looked for
BAD = "bad"


def way_back(origins, node):
    """The tuple of the moves by which a search came to a node."""
    found = []
    while origins[node] is not None:
        node, move = origins[node]
        found.append(move)
    return tuple(found[::-1])


def first_way(start, leads, is_goal):
    """The least, as tuples compare, of the shortest tuples of moves from a node to a goal, or None.

    `leads(node)` is the list of (move, next node), moves ascending; `is_goal(node)` tells whether a node is a goal.
    """
    origins = {start: None}
    queue = [start]
    at = 0
    # Nodes stand in the queue as their first ways compare: shorter ones first, then the least.
    while at < len(queue):
        node = queue[at]
        if is_goal(node):
            return way_back(origins, node)
        for move, after in leads(node):
            if after not in origins:
                origins[after] = (node, move)
                queue.append(after)
        at = at + 1
    return None


def crossed_gaps(system, places, move):
    """The list of the gaps (name of a task, k) that an enabled move uses at these places."""
    if move[0] != "step":
        return []
    # at a place that is held no step of another task is enabled
    return [(task.name, place) for task, place in zip(system.tasks, places) if task.name != move[1] and place > 0]


class Search:
    """The states to which moves lead from the start of a unit, numbered, and the moves between them."""

    def __init__(self, unit):
        self.unit = unit
        self.seen = [unit.start]
        self.heights = [0]
        # for each state the list of (move, number of the next state, whether the move has faults)
        self.edges = []
        numbers = {unit.start: 0}
        while len(self.edges) < len(self.seen):
            self.edges.append(self.followed(numbers, len(self.edges)))

    def followed(self, numbers, number):
        """The edges of a state; states that were not seen before get the next numbers."""
        state = self.seen[number]
        found = []
        for move in self.unit.enabled(state):
            after, wrongs = self.unit.after(state, move)
            if after not in numbers:
                if len(self.seen) == MOST_STATES:
                    raise TooLarge(MOST_STATES)
                numbers[after] = len(self.seen)
                self.seen.append(after)
                self.heights.append(self.heights[number] + 1)
            found.append((move, numbers[after], wrongs != ()))
        return found

    def first_levels(self, many=None):
        """The list of the first levels, so many or all: ascending tuples of states."""
        levels = [[] for _ in range(max(self.heights) + 1)]
        for state, height in zip(self.seen, self.heights):
            levels[height].append(state)
        return [tuple(sorted(level)) for level in levels[:many]]

    def leads(self, number, barred):
        """The list of (move, next number) for a state, without moves that use one of some gaps."""
        places = self.seen[number][0]
        found = []
        for move, after, is_bad in self.edges[number]:
            crossed = crossed_gaps(self.unit.system, places, move)
            if not any([gap in barred for gap in crossed]):
                found.append((move, BAD if is_bad else after))
        return found

    def first_bad_run(self, barred):
        """The least of the shortest bad runs over the unit that use none of some gaps, or None."""
        def leads(number):
            return self.leads(number, barred)

        return first_way(0, leads, lambda number: number == BAD)


def first_of_bad_runs(searches, barred):
    """The least of the shortest bad runs over the units of some searches that use none of some gaps, or None."""
    runs = [search.first_bad_run(barred) for search in searches]
    found = sorted([(len(run), run) for run in runs if run is not None])
    return found[0][1] if len(found) > 0 else None
