"""Rows of accesses, done once and alone: what comes of them, and whether two of them are alike."""

from keptbits.choices import all_choices
from keptbits.errors import InvalidStep
from keptbits.items import closed_over, items_of_map, loads_of, needs_among
from keptbits.searches import first_way
from keptbits.steps import Read, Write
from keptbits.systems import check_steps, last_reads, wrong_step
from keptbits.tasks import MOST_STEPS
from keptbits.tracks import ROW, Track, all_states, outer_item
from keptbits.words import is_plain, is_variable


def is_row(value):
    """Whether any value is a list of as many Reads and Writes as a row can have."""
    return (isinstance(value, list) and len(value) <= MOST_STEPS
            and all([isinstance(step, (Read, Write)) for step in value]))


def check_rows(layout, rows):
    """Raise InvalidStep or InvalidSystem for the first of any values that is no row on a map."""
    for row in rows:
        if not is_row(row):
            raise InvalidStep("row")
        check_steps(layout, ROW, row, MOST_STEPS)


def check_kept(rows, kept):
    """Raise InvalidStep unless any value is a tuple of unlike variables that each row loads."""
    if not isinstance(kept, tuple) or not all([is_variable(variable) for variable in kept]):
        raise InvalidStep("kept")
    loaded = [last_reads(row) for row in rows]
    if len(set(kept)) != len(kept) or not all([variable in reads for reads in loaded for variable in kept]):
        raise InvalidStep("kept")


def joined_items(layout, rows):
    """For each item of rows, as one of a task, in their order, the tuple of those that it meets."""
    named = [(ROW, row) for row in rows]
    loaded = sorted({load[:2] for row in rows for load in loads_of(layout, row)})
    items = items_of_map(layout) + [("var", ROW, variable, j) for variable, j in loaded]
    table = needs_among(layout, items, named)
    return {item: tuple([other for other in items if other in table[item] or item in table[other]]) for item in items}


def components_of(layout, rows):
    """The tuple of the components of rows that are right."""
    table = joined_items(layout, rows)
    placed = {}
    found = []
    for item in table:
        if item not in placed:
            members = closed_over(table, (item,))
            for member in members:
                placed[member] = True
            found.append(tuple([outer_item(member) for member in members]))
    return tuple(found)


def starts_of(layout, component):
    """The ascending list of the starts of a component that is not too large."""
    return all_states(layout, [item for item in component if item[0] != "var"])


def components(layout, *rows):
    """The tuple of the components of rows, in the order of their first items."""
    check_rows(layout, rows)
    return components_of(layout, rows)


def starts(layout, component):
    """The ascending tuple of the starts of a component."""
    # raises TooLarge for all items, the variables among them
    all_states(layout, component)
    return tuple(starts_of(layout, component))


def reached(layout, row, component, start):
    """For each step of a row and the end, the ascending tuple of the states that are reached there."""
    check_rows(layout, (row,))
    track = Track(layout, row, component)
    return tuple([track.states_in(mask) for mask in track.reached_masks(start, track.whole)])


def shows_reached(layout, row, component, start, told):
    """Whether any value tells, for each step and the end, at least the states that are reached there."""
    check_rows(layout, (row,))
    return Track(layout, row, component).is_shown(start, told)


def outcomes(layout, row, kept, component, start):
    """The ascending tuple of the outcomes of a row in a component, from a start."""
    check_rows(layout, (row,))
    check_kept((row,), kept)
    track = Track(layout, row, component)
    return track.outcomes(start, track.whole, kept)


def way_to(layout, row, kept, component, start, outcome):
    """A shortest tuple of moves by which an outcome, any value, comes; or None."""
    check_rows(layout, (row,))
    check_kept((row,), kept)
    track = Track(layout, row, component)
    if not is_plain(outcome):
        return None

    def leads(node):
        return track.leads(node)

    def is_goal(node):
        return node[0] == len(row) and track.outcome(node[1], kept) == outcome

    return first_way((0, track.number_of(start)), leads, is_goal)


def first_difference(layout, tracks, kept):
    """(component, start, outcome, side) for the first start from which two tracks of a component differ, or None."""
    component = tracks[0].component
    for start in starts_of(layout, component):
        one, other = [track.outcomes(start, track.whole, kept) for track in tracks]
        alone = sorted([(end, 0) for end in one if end not in other] + [(end, 1) for end in other if end not in one])
        if len(alone) > 0:
            outcome, side = alone[0]
            return component, start, outcome, side
    return None


def parting(layout, first, second, kept=()):
    """None if two rows are alike, else (component, start, outcome, side) where they first differ."""
    rows = (first, second)
    check_rows(layout, rows)
    check_kept(rows, kept)
    # all tracks are made first, since each component can be too large
    pairs_of_tracks = [[Track(layout, row, component) for row in rows] for component in components_of(layout, rows)]
    for tracks in pairs_of_tracks:
        found = first_difference(layout, tracks, kept)
        if found is not None:
            return found
    return None


def alike(layout, first, second, kept=()):
    """Whether two rows are alike for the kept variables."""
    return parting(layout, first, second, kept) is None


def may_stay(layout, row, indexes, kept):
    """Whether the steps of a row with these indexes are a row that loads the kept variables."""
    steps = [row[index] for index in indexes]
    if not all([wrong_step(layout, step, steps[:k]) is None for k, step in enumerate(steps)]):
        return False
    return all([variable in last_reads(steps) for variable in kept])


def are_enough(cases, indexes, kept):
    """Whether the steps with these indexes have the outcomes of all cases (track, start, outcomes)."""
    for track, start, wanted in cases:
        if track.outcomes(start, indexes, kept) != wanted:
            return False
    return True


def needed(layout, row, kept=()):
    """The indexes of the fewest steps of a row that are alike to it."""
    check_rows(layout, (row,))
    check_kept((row,), kept)
    tracks = [Track(layout, row, component) for component in components_of(layout, (row,))]
    cases = [(track, start, track.outcomes(start, track.whole, kept)) for track in tracks
             for start in starts_of(layout, track.component)]
    whole = list(range(len(row)))
    # the last choice is the whole row
    for indexes in all_choices(whole)[:-1]:
        if may_stay(layout, row, indexes, kept) and are_enough(cases, indexes, kept):
            return indexes
    return tuple(whole)
