"""Maps: the registers of a device, and where the bits of their fields lie."""

from keptbits.errors import InvalidMap, InvalidWidth, NoName
from keptbits.fields import Field, KeyRegister, Register, listed
from keptbits.words import full_word, is_width, is_word, lane_span

MOST_REGISTERS = 4
MOST_FIELDS = 8
MOST_BITS = 16


def check_registers(width, registers):
    """Raise InvalidMap unless there are so many registers, with names of their own and constants of the width."""
    if not 1 <= len(registers) <= MOST_REGISTERS or not all([isinstance(port, Register) for port in registers]):
        raise InvalidMap(None, "registers")
    names = []
    for port in registers:
        if port.name in names:
            raise InvalidMap(port.name, "name")
        if isinstance(port, KeyRegister) and not all([is_word(number, width) for number in port.constants]):
            raise InvalidMap(port.name, "constants")
        names.append(port.name)


def check_fields(width, registers):
    """Raise InvalidMap unless the fields have names of their own and each its own bits of the width."""
    names = [port.name for port in registers]
    for port in registers:
        taken = 0
        for field in port.fields:
            bits = full_word(field.size) << field.low
            if field.name in names:
                raise InvalidMap(field.name, "name")
            if field.low + field.size > width:
                raise InvalidMap(field.name, "place")
            if bits & taken != 0:
                raise InvalidMap(field.name, "overlap")
            names.append(field.name)
            taken = taken | bits


def is_one_bit(part):
    """Whether a part of a map, or None, is a field with one bit."""
    return isinstance(part, Field) and part.size == 1


def may_commit(part):
    """Whether a part of a map, or None, can be the commit of fields."""
    return is_one_bit(part) and part.lock is None and part.key is None and part.commit is None


def may_hold(part):
    """Whether a part of a map, or None, can be the field by which another one is held."""
    # a field that is to be held by itself is held, too, so it is refused here
    return isinstance(part, Field) and part.held is None


def check_partners(field, parts):
    """Raise InvalidMap unless all that a field names is in a map with these parts and can be so named."""
    if field.lock is not None and not is_one_bit(parts.get(field.lock)):
        raise InvalidMap(field.name, "lock")
    if field.key is not None and not isinstance(parts.get(field.key), KeyRegister):
        raise InvalidMap(field.name, "key")
    if field.commit is not None and not may_commit(parts.get(field.commit)):
        raise InvalidMap(field.name, "commit")
    if field.held is not None and not may_hold(parts.get(field.held)):
        raise InvalidMap(field.name, "held")


def places_of(port):
    """The tuple of (place in the word, field name, i) for all bits of a register's fields, ascending."""
    return tuple(sorted([(field.low + i, field.name, i) for field in port.fields for i in range(field.size)]))


class DeviceMap:
    """The registers of a device, all of one width."""

    def __init__(self, width, *registers):
        if not is_width(width):
            raise InvalidWidth(width)
        check_registers(width, registers)
        check_fields(width, registers)
        self.width = width
        self.registers = registers
        self.fields = tuple([field for port in registers for field in port.fields])
        self.bits = tuple([(field.name, i) for field in self.fields for i in range(field.size)])
        if len(self.fields) > MOST_FIELDS or len(self.bits) > MOST_BITS:
            raise InvalidMap(None, "size")
        self.parts = {part.name: part for part in registers + self.fields}
        for field in self.fields:
            check_partners(field, self.parts)
        self.homes = {field.name: port.name for port in registers for field in port.fields}
        self.bit_places = {port.name: places_of(port) for port in registers}

    @classmethod
    def of(cls, width, registers):
        """The map with the registers of a list or tuple."""
        parts = listed(registers)
        return cls(width, *parts)

    def __getitem__(self, at):
        if at not in self:
            raise NoName(at)
        return self.parts[at]

    def __contains__(self, x):
        return isinstance(x, str) and x in self.parts

    def __len__(self):
        return len(self.registers)

    def __iter__(self):
        return iter(self.registers)

    def home(self, name):
        """The name of the register in which the field of this name lies."""
        if not isinstance(name, str) or name not in self.homes:
            raise NoName(name)
        return self.homes[name]

    def span(self, port, lane):
        """The pair of the lowest bit and the number of bits of a lane of a register."""
        if not isinstance(port, str) or port not in self.bit_places:
            raise NoName(port)
        return lane_span(self.width, lane)

    def touched(self, port, lane):
        """The tuple of (j, field name, i) for the bits of fields at j places above the lane's lowest bit."""
        low, size = self.span(port, lane)
        return tuple([(place - low, name, i) for place, name, i in self.bit_places[port]
                      if low <= place < low + size])

    def beside(self, port, lane):
        """The tuple of (field name, i) for the bits beside an access, in the order of their places."""
        low, size = self.span(port, lane)
        if not self.parts[port].whole:
            return ()
        return tuple([(name, i) for place, name, i in self.bit_places[port]
                      if not low <= place < low + size])

    def __eq__(self, other):
        return isinstance(other, DeviceMap) and self.width == other.width and self.registers == other.registers
