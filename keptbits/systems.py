"""Systems: a map, tasks on it, and fields that mirror each other."""

from keptbits.errors import InvalidSystem, NoName
from keptbits.fields import Field, KeyRegister, listed
from keptbits.maps import DeviceMap
from keptbits.steps import Pair, Read, Serve, Write
from keptbits.tasks import Task
from keptbits.texts import parts_of_text, text_lines
from keptbits.words import full_word, is_int, is_plain, is_word, lane_span, lanes_of

MOST_TASKS = 3
MOST_STEPS = 10
MOST_MIRRORS = 3
MOST_VARIABLES = 2


def is_field(layout, value):
    """Whether any value is the name of a field of a map."""
    return value in layout and isinstance(layout[value], Field)


def is_port(layout, value):
    """Whether any value is the name of a register of a map."""
    return value in layout and not isinstance(layout[value], Field)


def wrong_write(layout, step):
    """The first reason why a Write to a register and lane of a map is wrong there, or None."""
    blend = step.blend
    if isinstance(layout[step.port], KeyRegister) and (step.variable is not None or step.lane != "w"):
        return "key"
    low, size = lane_span(layout.width, step.lane)
    if blend.width != layout.width or max(blend.keep, blend.flip) > full_word(size):
        return "blend"
    return None


def wrong_access(layout, step):
    """The first reason why a Read or Write is wrong on a map, whatever other steps there are, or None."""
    if not is_port(layout, step.port):
        return "port"
    if step.lane not in lanes_of(layout.width):
        return "lane"
    reason = wrong_write(layout, step) if isinstance(step, Write) else None
    if reason is None and not all([is_field(layout, name) for name in step.means]):
        return "means"
    return reason


def used_by(step):
    """The tuple of the variables that a step uses."""
    if isinstance(step, Pair):
        return step.first, step.second
    if isinstance(step, Serve):
        return (step.variable,)
    if isinstance(step, Write) and step.variable is not None:
        return (step.variable,)
    return ()


def last_reads(steps):
    """For each variable that some steps load, the last Read of it."""
    return {step.variable: step for step in steps if isinstance(step, Read)}


def loads_bit_of(layout, read, name):
    """Whether a Read loads a bit of the field of this name."""
    return name in [field for j, field, i in layout.touched(read.port, read.lane)]


def is_paired(layout, step, reads):
    """Whether a Pair names a held field, and the last Reads of its variables are as they must be."""
    if not is_field(layout, step.field) or layout[step.field].held is None:
        return False
    return (loads_bit_of(layout, reads[step.first], layout[step.field].held)
            and loads_bit_of(layout, reads[step.second], step.field))


def wrong_step(layout, step, ahead):
    """The first reason why a step is wrong on a map behind the steps ahead of it, which are right, or None."""
    reads = last_reads(ahead)
    if isinstance(step, (Read, Write)):
        reason = wrong_access(layout, step)
        if reason is not None:
            return reason
    if isinstance(step, Serve) and not is_word(step.mask, layout.width):
        return "mask"
    if isinstance(step, Read) and step.variable not in reads and len(reads) == MOST_VARIABLES:
        return "variables"
    if not all([variable in reads for variable in used_by(step)]):
        return "loaded"
    if isinstance(step, Pair) and not is_paired(layout, step, reads):
        return "pair"
    return None


def check_steps(layout, name, steps, room):
    """Raise InvalidSystem for the first step of a task of this name that is wrong, or has no room among so many."""
    for index, step in enumerate(steps):
        reason = "steps" if index >= room else wrong_step(layout, step, steps[:index])
        if reason is not None:
            raise InvalidSystem(name, index, reason)


def check_tasks(tasks):
    """Raise InvalidSystem unless any values are one to three tasks with names of their own."""
    if len(tasks) == 0:
        raise InvalidSystem("", 0, "tasks")
    for index, task in enumerate(tasks):
        if index >= MOST_TASKS or not isinstance(task, Task):
            raise InvalidSystem("", index, "tasks")
    names = [task.name for task in tasks]
    for index, name in enumerate(names):
        if name in names[:index]:
            raise InvalidSystem(name, 0, "name")


def is_mirror(layout, value):
    """Whether any value is a pair of the names of fields that can be mirrors of each other."""
    if not isinstance(value, tuple) or len(value) != 2 or not all([is_field(layout, name) for name in value]):
        return False
    first, second = [layout[name] for name in value]
    if first.name == second.name or first.size != second.size or first.reset != second.reset:
        return False
    return first.device == "still" and second.device == "still"


def check_mirrors(layout, mirrors):
    """Raise InvalidSystem unless any value is a tuple of at most three mirrors."""
    if not isinstance(mirrors, tuple):
        raise InvalidSystem("", 0, "mirrors")
    for index, mirror in enumerate(mirrors):
        if index >= MOST_MIRRORS or not is_mirror(layout, mirror):
            raise InvalidSystem("", index, "mirrors")


def held_too(task, gaps):
    """The task that also holds those of some gaps (name, k) that are its own."""
    more = [k for name, k in gaps if name == task.name]
    holds = tuple(sorted(set(list(task.holds) + more)))
    return Task.of(task.name, task.steps, core=task.core, rank=task.rank, holds=holds)


class System:
    """Tasks that access the registers of a map."""

    def __init__(self, layout, *tasks, mirrors=()):
        if not isinstance(layout, DeviceMap):
            raise InvalidSystem("", 0, "layout")
        check_tasks(tasks)
        room = MOST_STEPS
        for task in tasks:
            check_steps(layout, task.name, task.steps, room)
            room = room - len(task.steps)
        check_mirrors(layout, mirrors)
        self.layout = layout
        self.tasks = tasks
        self.mirrors = mirrors
        self.gaps = tuple([(task.name, k) for task in tasks for k in range(1, len(task.steps))
                           if k not in task.holds])

    @classmethod
    def of(cls, layout, tasks, *, mirrors=()):
        """The system with the tasks of a list or tuple."""
        parts = listed(tasks)
        return cls(layout, *parts, mirrors=mirrors)

    @classmethod
    def of_text(cls, text):
        """The system of a text."""
        layout, tasks, mirrors = parts_of_text(text)
        return cls(layout, *tasks, mirrors=mirrors)

    def __getitem__(self, at):
        if at not in self:
            raise NoName(at)
        return [task for task in self.tasks if task.name == at][0]

    def __contains__(self, x):
        return x in [task.name for task in self.tasks]

    def __iter__(self):
        return iter(self.tasks)

    def is_gap(self, value):
        """Whether any value is a gap, held or not, of a task."""
        if not is_plain(value) or len(value) != 2 or value[0] not in self or not is_int(value[1]):
            return False
        return 1 <= value[1] < len(self[value[0]].steps)

    def with_holds(self, *gaps):
        """The system in which these gaps (name, k) are held, too."""
        for index, gap in enumerate(gaps):
            if not self.is_gap(gap):
                raise InvalidSystem("", index, "gap")
        tasks = [held_too(task, gaps) for task in self.tasks]
        return System(self.layout, *tasks, mirrors=self.mirrors)

    def without(self, name):
        """The system without the task of this name."""
        if name not in self:
            raise NoName(name)
        tasks = [task for task in self.tasks if task.name != name]
        return System(self.layout, *tasks, mirrors=self.mirrors)

    def __eq__(self, other):
        return (isinstance(other, System) and self.layout == other.layout and self.tasks == other.tasks
                and self.mirrors == other.mirrors)

    def __str__(self):
        return "\n".join(text_lines(self.layout, self.tasks, self.mirrors))

    def __repr__(self):
        return f"System({len(self.tasks)} tasks, {sum([len(task.steps) for task in self.tasks])} steps)"
