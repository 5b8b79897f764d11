"""Steps: the accesses and checks of which tasks are made."""

from keptbits.blends import Blend
from keptbits.errors import InvalidStep
from keptbits.fields import WIDEST, listed
from keptbits.words import is_name, is_variable, is_word, lanes_of


def check_part(right, reason):
    """Raise InvalidStep with the name of a parameter that is not right."""
    if not right:
        raise InvalidStep(reason)


def check_access(port, lane):
    """Raise InvalidStep unless any two values can be the port and the lane of an access."""
    check_part(is_name(port), "port")
    check_part(lane in lanes_of(WIDEST), "lane")


def ascending_means(means):
    """The ascending tuple of the names that any values are; raise InvalidStep unless they are different names."""
    check_part(all([is_name(name) for name in means]), "means")
    check_part(len(set(means)) == len(means), "means")
    return tuple(sorted(means))


def means_words(means):
    """The list of the words at the end of an access's line."""
    if means == ():
        return []
    return ["means"] + list(means)


class Step:
    """The base of all steps."""


class Read(Step):
    """A read of a lane of a register into a variable."""

    def __init__(self, variable, port, lane, *means):
        check_part(is_variable(variable), "variable")
        check_access(port, lane)
        self.means = ascending_means(means)
        self.variable = variable
        self.port = port
        self.lane = lane

    @classmethod
    def of(cls, variable, port, lane, means=()):
        """The Read that means the fields of a list or tuple."""
        names = listed(means)
        return cls(variable, port, lane, *names)

    def __eq__(self, other):
        return (isinstance(other, Read) and self.variable == other.variable and self.port == other.port
                and self.lane == other.lane and self.means == other.means)

    def __str__(self):
        return " ".join(["read", self.variable, self.port, self.lane] + means_words(self.means))

    def __repr__(self):
        return str(self)


class Write(Step):
    """A write of a constant, or of what a blend makes of a variable, to a lane of a register."""

    def __init__(self, port, lane, blend, *means, variable=None):
        check_access(port, lane)
        check_part(isinstance(blend, Blend), "blend")
        self.means = ascending_means(means)
        check_part(variable is None or is_variable(variable), "variable")
        check_part(blend.is_constant == (variable is None), "variable")
        self.port = port
        self.lane = lane
        self.blend = blend
        self.variable = variable

    @classmethod
    def of(cls, port, lane, blend, means=(), variable=None):
        """The Write that means the fields of a list or tuple."""
        names = listed(means)
        return cls(port, lane, blend, *names, variable=variable)

    def __eq__(self, other):
        return (isinstance(other, Write) and self.port == other.port and self.lane == other.lane
                and self.blend == other.blend and self.means == other.means and self.variable == other.variable)

    def blend_words(self):
        """The list of the words that tell what is written."""
        blend = self.blend
        if self.variable is None:
            return [str(blend.flip)]
        return [self.variable, str(blend.shift), str(blend.keep), str(blend.flip)]

    def __str__(self):
        return " ".join(["write", self.port, self.lane] + self.blend_words() + means_words(self.means))

    def __repr__(self):
        return str(self)


class Serve(Step):
    """The moment at which the events of some bits of a variable are served."""

    def __init__(self, variable, mask):
        check_part(is_variable(variable), "variable")
        check_part(is_word(mask, WIDEST) and mask != 0, "mask")
        self.variable = variable
        self.mask = mask

    def __eq__(self, other):
        return isinstance(other, Serve) and self.variable == other.variable and self.mask == other.mask

    def __str__(self):
        return f"serve {self.variable} {self.mask}"

    def __repr__(self):
        return str(self)


class Pair(Step):
    """A check that two variables come from one latch of a held field."""

    def __init__(self, first, second, field):
        check_part(is_variable(first), "first")
        check_part(is_variable(second) and second != first, "second")
        check_part(is_name(field), "field")
        self.first = first
        self.second = second
        self.field = field

    def __eq__(self, other):
        return (isinstance(other, Pair) and self.first == other.first and self.second == other.second
                and self.field == other.field)

    def __str__(self):
        return f"pair {self.first} {self.second} {self.field}"

    def __repr__(self):
        return str(self)
