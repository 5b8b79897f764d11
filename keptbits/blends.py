"""Blends: words made of shifted, kept and flipped bits of another word."""

from keptbits.errors import InvalidShift, InvalidWidth
from keptbits.words import check_word, full_word, is_int, is_width


def shifted(word, shift, width):
    """A word shifted up, or down by a shift below 0, and cut off to the width."""
    if shift < 0:
        return word >> -shift
    return (word << shift) & full_word(width)


def check_shift(value, least, most):
    """Raise InvalidShift for any value that is not an integer from the least to the most."""
    if not is_int(value) or not least <= value <= most:
        raise InvalidShift(value)


class Blend:
    """A function from words to words, in normal form."""

    def __init__(self, width, shift=0, keep=None, flip=0):
        if not is_width(width):
            raise InvalidWidth(width)
        check_shift(shift, -width, width)
        full = full_word(width)
        if keep is None:
            keep = full
        check_word(keep, width)
        check_word(flip, width)
        # a bit whose source lies outside the word is not kept
        kept = keep & shifted(full, shift, width)
        self.width = width
        self.shift = shift if kept != 0 else 0
        self.keep = kept
        self.flip = flip

    @classmethod
    def constant(cls, width, value):
        """The blend that gives this word for every word."""
        return cls(width, 0, 0, value)

    @property
    def is_constant(self):
        """Whether the result is the same for all words."""
        return self.keep == 0

    def __call__(self, value):
        check_word(value, self.width)
        return (shifted(value, self.shift, self.width) & self.keep) ^ self.flip

    def __and__(self, other):
        check_word(other, self.width)
        return Blend(self.width, self.shift, self.keep & other, self.flip & other)

    def __rand__(self, other):
        return self & other

    def __or__(self, other):
        check_word(other, self.width)
        zeros = other ^ full_word(self.width)
        return Blend(self.width, self.shift, self.keep & zeros, self.flip | other)

    def __ror__(self, other):
        return self | other

    def __xor__(self, other):
        check_word(other, self.width)
        return Blend(self.width, self.shift, self.keep, self.flip ^ other)

    def __rxor__(self, other):
        return self ^ other

    def __invert__(self):
        return self ^ full_word(self.width)

    def __lshift__(self, other):
        check_shift(other, 0, self.width)
        return self.then(Blend(self.width, other))

    def __rshift__(self, other):
        check_shift(other, 0, self.width)
        return self.then(Blend(self.width, -other))

    def then(self, c):
        """First this blend, then the blend c, as one blend."""
        if c.width != self.width:
            raise InvalidWidth(c.width)
        keep = shifted(self.keep, c.shift, self.width) & c.keep
        flip = (shifted(self.flip, c.shift, self.width) & c.keep) ^ c.flip
        # the sum of the shifts can lie outside the width only if no bit is kept
        shift = self.shift + c.shift if keep != 0 else 0
        return Blend(self.width, shift, keep, flip)

    def sources(self):
        """Yield (bit of the result, bit of the argument) for the kept bits, ascending."""
        for j in range(self.width):
            if (self.keep >> j) & 1 == 1:
                yield j, j - self.shift

    def __eq__(self, other):
        return (isinstance(other, Blend) and self.width == other.width and self.shift == other.shift
                and self.keep == other.keep and self.flip == other.flip)

    def __repr__(self):
        return f"Blend({self.width}, {self.shift}, {self.keep}, {self.flip})"


def blend_parting(b, c):
    """None, or the least word at which two blends differ."""
    if b.width != c.width:
        raise InvalidWidth(c.width)
    # Where the flips are equal, each bit of b(v) ^ c(v) is the xor of none, one or two
    # different bits of v. So the lowest one that plays a part makes a difference alone.
    for word in [0] + [1 << i for i in range(b.width)]:
        if b(word) != c(word):
            return word
    return None
