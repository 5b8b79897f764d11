"""Fields of bits, and the registers that have them or take keys."""

from keptbits.errors import InvalidField, InvalidMap
from keptbits.kinds import Kind
from keptbits.words import is_int, is_name, is_word

HIGHEST_PLACE = 31
MOST_FIELD_BITS = 16
MOST_CONSTANTS = 3
WIDEST = 32


def is_place(low, size):
    """Whether two values, any ones, are the lowest bit and the number of bits of a field."""
    if not is_int(low) or not is_int(size):
        return False
    return 0 <= low <= HIGHEST_PLACE and 1 <= size <= MOST_FIELD_BITS and low + size <= WIDEST


def is_reset(reset, size, device):
    """Whether any value is a reset of so many bits with this device."""
    return is_word(reset, size) and (device != "raise" or reset == 0)


def listed(parts):
    """A list or tuple as it is; any other value as one part that cannot be right."""
    if isinstance(parts, (list, tuple)):
        return parts
    return (None,)


class Field:
    """A row of bits of a register, each of the same kind."""

    def __init__(self, name, low, size, *, reading="keep", writing="store", device="still", reset=0,
                 lock=None, key=None, commit=None, held=None):
        if not is_name(name):
            raise InvalidField(name, "name")
        if not is_place(low, size):
            raise InvalidField(name, "place")
        self.kind = Kind(reading, writing, device)
        if not is_reset(reset, size, device):
            raise InvalidField(name, "reset")
        for reason, partner in (("lock", lock), ("key", key), ("commit", commit), ("held", held)):
            if partner is not None and not is_name(partner):
                raise InvalidField(name, reason)
        self.name = name
        self.low = low
        self.size = size
        self.reading = reading
        self.writing = writing
        self.device = device
        self.reset = reset
        self.lock = lock
        self.key = key
        self.commit = commit
        self.held = held
        if held is not None and not self.may_be_held():
            raise InvalidField(name, "held")
        if commit is not None and self.kind != Kind("keep", "store", "still"):
            raise InvalidField(name, "commit")

    def may_be_held(self):
        """Whether the rest of the field is as that of a held field."""
        if self.lock is not None or self.key is not None or self.commit is not None:
            return False
        return self.reading == "keep" and self.writing == "none" and self.device in ("still", "drift")

    def __eq__(self, other):
        return (isinstance(other, Field) and self.name == other.name and self.low == other.low
                and self.size == other.size and self.kind == other.kind and self.reset == other.reset
                and self.lock == other.lock and self.key == other.key and self.commit == other.commit
                and self.held == other.held)


class Register:
    """A word of the device, with the fields that lie in it."""

    def __init__(self, name, *fields, whole=False):
        if not is_name(name):
            raise InvalidMap(name, "name")
        if not all([isinstance(field, Field) for field in fields]):
            raise InvalidMap(name, "fields")
        if not isinstance(whole, bool):
            raise InvalidMap(name, "whole")
        self.name = name
        self.fields = fields
        self.whole = whole

    @classmethod
    def of(cls, name, fields, whole=False):
        """The register with the fields of a list or tuple."""
        parts = listed(fields)
        return cls(name, *parts, whole=whole)

    def __eq__(self, other):
        return (isinstance(other, Register) and not isinstance(other, KeyRegister) and self.name == other.name
                and self.fields == other.fields and self.whole == other.whole)


class KeyRegister(Register):
    """A register that is opened by its constants, written one after another."""

    def __init__(self, name, *constants):
        super().__init__(name)
        if not 1 <= len(constants) <= MOST_CONSTANTS or not all([is_word(number, WIDEST) for number in constants]):
            raise InvalidMap(name, "constants")
        self.constants = constants

    @classmethod
    def of(cls, name, constants):
        """The key register with the constants of a list or tuple."""
        parts = listed(constants)
        return cls(name, *parts)

    def __eq__(self, other):
        return isinstance(other, KeyRegister) and self.name == other.name and self.constants == other.constants
