"""Steps that set a field, and the other bits that they move."""

from keptbits.blends import Blend
from keptbits.errors import InvalidLane
from keptbits.neutral import neutral_write
from keptbits.searches import first_way
from keptbits.steps import Read, Write
from keptbits.words import check_word, full_word, lane_span, lanes_of

MOVED = "moved"


def has_field(layout, lane, field):
    """Whether a lane has all bits of a field."""
    low, size = lane_span(layout.width, lane)
    return low <= field.low and field.low + field.size <= low + size


def narrowest_lane(layout, name):
    """The smallest lane that has all bits of a field, or `w` in a whole register."""
    home = layout.home(name)
    if layout[home].whole:
        return "w"
    lanes = [lane for lane in lanes_of(layout.width) if has_field(layout, lane, layout[name])]
    return sorted([(lane_span(layout.width, lane)[1], lane) for lane in lanes])[0][1]


def lane_for(layout, name, lane):
    """A lane, any value, that has all bits of a field; for None the narrowest one."""
    narrowest = narrowest_lane(layout, name)
    if lane is None:
        return narrowest
    # a lane that the width does not have raises the error, too
    if not has_field(layout, lane, layout[name]):
        raise InvalidLane(lane)
    return lane


def blend_setting(layout, name, lane, value):
    """The blend that puts a value in the place of a field in a lane and keeps the other bits of the lane."""
    field = layout[name]
    low, size = lane_span(layout.width, lane)
    place = field.low - low
    others = full_word(size) ^ (full_word(field.size) << place)
    return Blend(layout.width, 0, others, value << place)


def write_setting(port, lane, blend, name, variable):
    """The Write of a blend that means a field; of a constant it is without the variable."""
    return Write(port, lane, blend, name, variable=None if blend.is_constant else variable)


def set_by_reading(layout, name, value, *, lane=None, variable="a"):
    """(Read, Write): the steps that read a lane and write it back with a value in the field's place."""
    part = lane_for(layout, name, lane)
    check_word(value, layout[name].size)
    port = layout.home(name)
    blend = blend_setting(layout, name, part, value)
    return Read(variable, port, part, name), write_setting(port, part, blend, name, variable)


def set_by_writing(layout, name, value, *, lane=None):
    """(Write,): the step that writes a value in the field's place, and letters elsewhere that move nothing."""
    part = lane_for(layout, name, lane)
    field = layout[name]
    check_word(value, field.size)
    port = layout.home(name)
    word, _ = neutral_write(layout, port, part, name)
    low, _ = lane_span(layout.width, part)
    return (Write(port, part, Blend.constant(layout.width, word | value << (field.low - low)), name),)


def node_behind(place, end, word, is_moved):
    """The node behind a step: MOVED, or (place of the next step, state of the bit, bit of the variable)."""
    return MOVED if is_moved else (place, end, word)


def leads_of(kind, beside, node):
    """The list of (move, next node) for a bit of a kind that is not meant while a field is set by reading."""
    place, state, word = node
    found = [("device", (place, end, word)) for end in kind.deeds(state)]
    if place == 0:
        end = kind.after_read(state)
        loaded = 0 if beside else state & 1
        return found + [("step", node_behind(1, end, loaded, end != state))]
    end = kind.after_write(state, word)
    return found + [("step", node_behind(0, end, 0, end != state))]


def least_moves(kind, reset, *, beside=False):
    """The least number of moves after which a bit that is not meant is moved, or None."""
    def leads(node):
        return leads_of(kind, beside, node)

    way = first_way((0, reset, 0), leads, lambda node: node == MOVED)
    return None if way is None else len(way)


def moved_bits(layout, name, *, lane=None):
    """Yield (field name, i, number) for each bit of another field that is ever moved when a field is set by reading."""
    part = lane_for(layout, name, lane)
    port = layout.home(name)
    inside = [(other, i) for j, other, i in layout.touched(port, part)]
    outside = layout.beside(port, part)
    for other, i in layout.bits:
        if other != name and ((other, i) in inside or (other, i) in outside):
            field = layout[other]
            number = least_moves(field.kind, (field.reset >> i) & 1, beside=(other, i) in outside)
            if number is not None:
                yield other, i, number
