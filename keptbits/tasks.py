"""Tasks: rows of steps that are done again and again."""

from keptbits.errors import InvalidTask
from keptbits.fields import listed
from keptbits.steps import Pair, Read, Serve, Write
from keptbits.words import is_int, is_task_name

MOST_STEPS = 6
HIGHEST_CORE = 3
HIGHEST_RANK = 9


def are_steps(steps):
    """Whether any values are steps, as many as a task can have."""
    return 1 <= len(steps) <= MOST_STEPS and all([isinstance(step, (Read, Write, Serve, Pair)) for step in steps])


def is_up_to(value, most):
    """Whether any value is an integer from 0 to the most."""
    return is_int(value) and 0 <= value <= most


def are_gaps(value, many):
    """Whether any value is an ascending tuple of gaps of a task with so many steps."""
    if not isinstance(value, tuple) or not all([is_int(gap) and 1 <= gap < many for gap in value]):
        return False
    return list(value) == sorted(set(value))


class Task:
    """A row of steps with a name, a core and a rank, and the gaps that it holds."""

    def __init__(self, name, *steps, core=0, rank=0, holds=()):
        if not is_task_name(name):
            raise InvalidTask(name, "name")
        if not are_steps(steps):
            raise InvalidTask(name, "steps")
        if not is_up_to(core, HIGHEST_CORE):
            raise InvalidTask(name, "core")
        if not is_up_to(rank, HIGHEST_RANK):
            raise InvalidTask(name, "rank")
        if not are_gaps(holds, len(steps)):
            raise InvalidTask(name, "holds")
        self.name = name
        self.steps = steps
        self.core = core
        self.rank = rank
        self.holds = holds

    @classmethod
    def of(cls, name, steps, *, core=0, rank=0, holds=()):
        """The task with the steps of a list or tuple."""
        parts = listed(steps)
        return cls(name, *parts, core=core, rank=rank, holds=holds)

    def __eq__(self, other):
        return (isinstance(other, Task) and self.name == other.name and self.steps == other.steps
                and self.core == other.core and self.rank == other.rank and self.holds == other.holds)
