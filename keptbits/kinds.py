"""Kinds of bits: what reads, writes and the device do to a bit that nothing guards."""

from keptbits.errors import InvalidKind

# For each writing, by the value before: the states behind a write of 0 and of 1.
WRITES = {
    "store": ((0, 1), (0, 1)),
    "clear1": ((0, 0), (1, 0)),
    "clear0": ((0, 0), (0, 1)),
    "set1": ((0, 1), (1, 1)),
    "flip1": ((0, 1), (1, 0)),
    "once": ((2, 3), (2, 3)),
    "none": ((0, 0), (1, 1)),
}
# For each device, the values that one of its deeds inverts.
INVERTED = {"still": (), "raise": (0,), "end": (1,), "drift": (0, 1)}
SPENT = 2


class Kind:
    """How a bit is read, how it is written, and what the device does to it."""

    READINGS = ("keep", "take")
    WRITINGS = ("store", "clear1", "clear0", "set1", "flip1", "once", "none")
    DEVICES = ("still", "raise", "end", "drift")

    def __init__(self, reading, writing, device):
        for value, words in ((reading, Kind.READINGS), (writing, Kind.WRITINGS), (device, Kind.DEVICES)):
            if value not in words:
                raise InvalidKind(value)
        self.reading = reading
        self.writing = writing
        self.device = device
        self.states = (0, 1, 2, 3) if writing == "once" else (0, 1)

    def after_read(self, state):
        """The state behind a read."""
        if self.reading == "take":
            return state & SPENT
        return state

    def after_write(self, state, bit):
        """The state behind a write of this bit."""
        if state & SPENT != 0:
            return state
        return self.unguarded(state, bit)

    def unguarded(self, state, bit):
        """As after_write, but a spent bit is written as one that is not spent."""
        ends = WRITES[self.writing]
        return ends[state & 1][bit]

    def deeds(self, state):
        """The tuple of the states to which one deed of the device leads."""
        if (state & 1) in INVERTED[self.device]:
            return (state ^ 1,)
        return ()

    def __eq__(self, other):
        return (isinstance(other, Kind) and self.reading == other.reading
                and self.writing == other.writing and self.device == other.device)

    def __str__(self):
        return f"{self.reading} {self.writing} {self.device}"
