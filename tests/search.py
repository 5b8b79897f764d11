"""A search over the states of units, for the tests of examples and of safe systems."""


def levels_of(unit, most=1000):
    """The ascending states of each level from the start on."""
    levels, seen = [[unit.start]], {unit.start}
    while levels[-1]:
        found = {unit.after(state, move)[0] for state in levels[-1] for move in unit.moves(state)} - seen
        seen |= found
        if len(seen) > most:
            raise OverflowError
        levels.append(sorted(found))
    return levels[:-1]


def bad_runs(unit, most):
    """The shortest bad runs over a unit, ascending, if one has at most so many moves."""
    level = {unit.start: [()]}
    for _ in range(most):
        bad, grown = [], {}
        for state, runs in level.items():
            for move in unit.moves(state):
                after, faults = unit.after(state, move)
                longer = [(*run, move) for run in runs]
                if faults:
                    bad.extend(longer)
                else:
                    grown.setdefault(after, []).extend(longer)
        if bad:
            return sorted(bad)
        level = grown
    return []


def is_safe(unit, most=20000):
    """Whether no move at a state to which moves lead has a fault."""
    waiting, seen = [unit.start], {unit.start}
    while waiting:
        state = waiting.pop()
        for move in unit.moves(state):
            after, faults = unit.after(state, move)
            if faults:
                return False
            if after not in seen:
                seen.add(after)
                waiting.append(after)
        if len(seen) > most:
            raise OverflowError
    return True


def least_bad_run(unit):
    """The least of the shortest bad runs over a unit, or None; by the least run to each state of a level."""
    level, seen = {unit.start: ()}, {unit.start}
    while level:
        bad, grown = [], {}
        for state, run in level.items():
            for move in unit.moves(state):
                after, faults = unit.after(state, move)
                if faults:
                    bad.append((*run, move))
                elif after not in seen:
                    grown[after] = min(grown.get(after, (*run, move)), (*run, move))
        if bad:
            return min(bad)
        seen |= set(grown)
        if len(seen) > 20000:
            raise OverflowError
        level = grown
    return None
