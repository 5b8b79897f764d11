"""Shadow registers, which keep what was written to others, and the gaps that tasks which set fields need."""

from keptbits.errors import NoName, NoShadow
from keptbits.fields import Field, KeyRegister
from keptbits.kinds import Kind
from keptbits.rewrites import blend_setting, lane_for, narrowest_lane, set_by_reading, write_setting
from keptbits.steps import Read
from keptbits.tasks import Task
from keptbits.words import check_word, full_word, lane_span


def check_ports(layout, names):
    """Raise NoName for the first of any values that is not the name of a register."""
    for name in names:
        # a name that the map does not have raises the error, too
        if isinstance(layout[name], Field):
            raise NoName(name)


def is_simple(field):
    """Whether a field has the kind keep, store, still and names no other one."""
    if field.lock is not None or field.key is not None or field.commit is not None or field.held is not None:
        return False
    return field.kind == Kind("keep", "store", "still")


def is_shadow(home, other):
    """Whether a register is a shadow register of another one, `home`."""
    if isinstance(home, KeyRegister) or isinstance(other, KeyRegister):
        return False
    if home.name == other.name or home.whole != other.whole or len(home.fields) != len(other.fields):
        return False
    alike = [one.low == two.low and one.size == two.size and one.reset == two.reset and is_simple(two)
             for one, two in zip(home.fields, other.fields)]
    return all(alike)


def shadow_mirrors(layout, port, other):
    """The tuple of pairs (field name, name of its shadow) of a register and its shadow register."""
    check_ports(layout, (port, other))
    if not is_shadow(layout[port], layout[other]):
        raise NoShadow(port, other)
    return tuple([(one.name, two.name) for one, two in zip(layout[port].fields, layout[other].fields)])


def set_by_shadow(layout, name, other, value, *, lane=None, variable="a"):
    """(Read, Write, Write): the steps that set a field with what its shadow register holds, and the shadow, too."""
    part = lane_for(layout, name, lane)
    check_word(value, layout[name].size)
    port = layout.home(name)
    shadow = dict(shadow_mirrors(layout, port, other))[name]
    blend = blend_setting(layout, name, part, value)
    return (Read(variable, other, part, shadow), write_setting(port, part, blend, name, variable),
            write_setting(other, part, blend, shadow, variable))


def setting_tasks(layout, *settings):
    """The tuple of the tasks of settings (task name, field name, value, core, rank)."""
    return tuple([Task.of(task, set_by_reading(layout, name, value), core=core, rank=rank)
                  for task, name, value, core, rank in settings])


def differ_in_lane(layout, name, port, lane, numbers):
    """Whether the bits of a field in a lane of a register are not the same for all of some values."""
    if layout.home(name) != port:
        return False
    low, size = lane_span(layout.width, lane)
    mask = full_word(size) << low
    return len({(number << layout[name].low) & mask for number in numbers}) > 1


def may_step_in(setting, other):
    """Whether the task of another setting may step while that of a setting is in its gap."""
    core, rank = setting[3:]
    return other[3] != core or other[4] > rank


def is_needed(layout, settings, setting):
    """Whether the gap of a setting must be held for the settings of other tasks."""
    name = setting[1]
    port = layout.home(name)
    lane = narrowest_lane(layout, name)
    for other in settings:
        field = other[1]
        if field != name and may_step_in(setting, other):
            numbers = [layout[field].reset] + [each[2] for each in settings if each[1] == field]
            if differ_in_lane(layout, field, port, lane, numbers):
                return True
    return False


def needed_gaps(layout, *settings):
    """The ascending tuple of (task name, 1) for the gaps that must be held."""
    return tuple(sorted([(setting[0], 1) for setting in settings if is_needed(layout, settings, setting)]))
