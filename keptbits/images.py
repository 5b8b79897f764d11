"""Images: the values of all fields of a map, kept as a word for each register."""

from keptbits.errors import InvalidWord
from keptbits.fields import Register
from keptbits.words import check_word, full_word

BYTE_SIZE = 8


def field_mask(port):
    """The word in which the bits of a register's fields are 1."""
    return sum([full_word(field.size) << field.low for field in port.fields])


def reset_word(port):
    """The word of a register whose fields have their resets."""
    return sum([field.reset << field.low for field in port.fields])


class Image:
    """A value for each field of a map."""

    def __init__(self, layout, *words):
        if len(words) == 0:
            words = tuple([reset_word(port) for port in layout.registers])
        if len(words) != len(layout.registers):
            raise InvalidWord(None)
        for word in words:
            check_word(word, layout.width)
        self.layout = layout
        self.positions = {port.name: k for k, port in enumerate(layout.registers)}
        self.masks = [field_mask(port) for port in layout.registers]
        self.words = [word & mask for word, mask in zip(words, self.masks)]

    @classmethod
    def of_numbers(cls, layout, numbers):
        """The image with these bytes, as `numbers` returns them."""
        many = layout.width // BYTE_SIZE
        if not isinstance(numbers, (list, tuple)) or len(numbers) != many * len(layout.registers):
            raise InvalidWord(None)
        for number in numbers:
            check_word(number, BYTE_SIZE)
        words = [sum([numbers[first + k] << BYTE_SIZE * k for k in range(many)])
                 for first in range(0, len(numbers), many)]
        return cls(layout, *words)

    def numbers(self):
        """The list of the bytes of all registers, of each register the lowest one first."""
        return [(word >> low) & full_word(BYTE_SIZE) for word in self.words
                for low in range(0, self.layout.width, BYTE_SIZE)]

    def located(self, at):
        """The index of a register, and the lowest bit and the number of bits that any value `at` means there."""
        if isinstance(at, tuple) and len(at) == 2:
            port, lane = at
            low, size = self.layout.span(port, lane)
            return self.positions[port], low, size
        part = self.layout[at]
        if isinstance(part, Register):
            return self.positions[at], 0, self.layout.width
        return self.positions[self.layout.home(at)], part.low, part.size

    def __getitem__(self, at):
        k, low, size = self.located(at)
        return (self.words[k] >> low) & full_word(size)

    def __setitem__(self, at, worth):
        k, low, size = self.located(at)
        check_word(worth, size)
        others = self.words[k] & ~(full_word(size) << low)
        self.words[k] = (others | (worth << low)) & self.masks[k]

    def __iter__(self):
        raise TypeError("an image is not iterated over")

    def __and__(self, other):
        words = [one & two for one, two in zip(self.words, other.words)]
        return Image(self.layout, *words)

    def __or__(self, other):
        words = [one | two for one, two in zip(self.words, other.words)]
        return Image(self.layout, *words)

    def __xor__(self, other):
        words = [one ^ two for one, two in zip(self.words, other.words)]
        return Image(self.layout, *words)

    def __invert__(self):
        words = [word ^ mask for word, mask in zip(self.words, self.masks)]
        return Image(self.layout, *words)

    def __iand__(self, other):
        self.words = [one & two for one, two in zip(self.words, other.words)]
        return self

    def __ior__(self, other):
        self.words = [one | two for one, two in zip(self.words, other.words)]
        return self

    def __ixor__(self, other):
        self.words = [one ^ two for one, two in zip(self.words, other.words)]
        return self

    def within(self, other):
        """Whether each bit that is 1 here is 1 in the other image."""
        return all([one & two == one for one, two in zip(self.words, other.words)])

    def __eq__(self, other):
        return isinstance(other, Image) and self.layout == other.layout and self.words == other.words

    def __str__(self):
        return "\n".join([f"{field.name:<8} {self[field.name]:>5}" for field in self.layout.fields])
