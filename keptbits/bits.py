"""Bits: objects that are read, written and changed by the device, with nothing that guards them.

Each class below Bit defines only the part in which it differs, so that classes
with several bases take each part from the base that has it.
"""

from keptbits.kinds import SPENT
from keptbits.words import check_word


class Bit:
    """A bit that keeps its value behind a read, stores what is written, and has no deeds."""

    WORDS = ("keep", "store", "still")

    def __init__(self, value=0):
        check_word(value, 1)
        self._state = value

    @property
    def now(self):
        """The value, without a read."""
        return self._state & 1

    @property
    def state(self):
        """The value, plus 2 if the bit is spent."""
        return self._state

    def read(self):
        """Return the value, and do what a read does."""
        return self.now

    def write(self, bit):
        """Do what a write of this bit does."""
        check_word(bit, 1)
        self._state = bit

    def deed(self):
        """Do one deed of the device, and return whether there was one."""
        return False


class TakenBit(Bit):
    """A bit that a read clears."""

    WORDS = ("take", "store", "still")

    def read(self):
        """Return the value, which is 0 behind it."""
        value = super().read()
        self._state = self._state & SPENT
        return value


class ClearedBit(Bit):
    """A bit that a written 1 clears."""

    WORDS = ("keep", "clear1", "still")

    def write(self, bit):
        """Clear the value if the bit is 1."""
        check_word(bit, 1)
        if bit == 1:
            self._state = 0


class ZeroClearedBit(Bit):
    """A bit that a written 0 clears."""

    WORDS = ("keep", "clear0", "still")

    def write(self, bit):
        """Clear the value if the bit is 0."""
        check_word(bit, 1)
        if bit == 0:
            self._state = 0


class SetBit(Bit):
    """A bit that a written 1 sets."""

    WORDS = ("keep", "set1", "still")

    def write(self, bit):
        """Set the value if the bit is 1."""
        check_word(bit, 1)
        if bit == 1:
            self._state = 1


class FlippedBit(Bit):
    """A bit that a written 1 inverts."""

    WORDS = ("keep", "flip1", "still")

    def write(self, bit):
        """Invert the value if the bit is 1."""
        check_word(bit, 1)
        self._state = self._state ^ bit


class OnceBit(Bit):
    """A bit that takes one write only."""

    WORDS = ("keep", "once", "still")

    def write(self, bit):
        """Store the bit and be spent, if the bit is not spent yet."""
        check_word(bit, 1)
        if self._state & SPENT == 0:
            self._state = bit + SPENT


class DeafBit(Bit):
    """A bit that no write changes."""

    WORDS = ("keep", "none", "still")

    def write(self, bit):
        """Change nothing."""
        check_word(bit, 1)


class RaisedBit(Bit):
    """A bit that the device sets."""

    WORDS = ("keep", "store", "raise")

    def deed(self):
        """Set a value 0; leave a value 1 to the other bases."""
        if self.now == 1:
            return super().deed()
        self._state = self._state + 1
        return True


class EndedBit(Bit):
    """A bit that the device clears."""

    WORDS = ("keep", "store", "end")

    def deed(self):
        """Clear a value 1; leave a value 0 to the other bases."""
        if self.now == 0:
            return super().deed()
        self._state = self._state - 1
        return True


class DriftingBit(RaisedBit, EndedBit):
    """A bit that the device sets and clears."""

    WORDS = ("keep", "store", "drift")


class EventBit(ClearedBit, RaisedBit):
    """A bit that the device sets and a written 1 clears."""

    WORDS = ("keep", "clear1", "raise")


class TakenEventBit(TakenBit, DeafBit, RaisedBit):
    """A bit that the device sets and a read clears."""

    WORDS = ("take", "none", "raise")


class StartBit(SetBit, EndedBit):
    """A bit that a written 1 sets and the device clears."""

    WORDS = ("keep", "set1", "end")


class GaugeBit(DeafBit, DriftingBit):
    """A bit that the device alone changes."""

    WORDS = ("keep", "none", "drift")


class SealedBit(TakenBit, OnceBit):
    """A bit that takes one write only and that a read clears."""

    WORDS = ("take", "once", "still")


class KindBit(Bit):
    """A bit of any kind; its WORDS mean nothing."""

    def __init__(self, kind, value=0):
        super().__init__(value)
        self.kind = kind

    def read(self):
        """Return the value, and do what a read of the kind does."""
        value = self.now
        self._state = self.kind.after_read(self._state)
        return value

    def write(self, bit):
        """Do what a write of this bit to the kind does."""
        check_word(bit, 1)
        self._state = self.kind.after_write(self._state, bit)

    def deed(self):
        """Do one deed of the kind's device, and return whether there was one."""
        ends = self.kind.deeds(self._state)
        if ends == ():
            return False
        self._state = ends[0]
        return True
