"""The errors of the package.

A message shows no value that was passed: such a value can be long, and the
attributes of the error hold it.
"""


class BitError(ValueError):
    """The base of all errors of this package."""


class InvalidWidth(BitError):
    """A value is no width."""

    def __init__(self, value):
        super().__init__("not a width")
        self.value = value


class InvalidLane(BitError):
    """A value is no lane of the width."""

    def __init__(self, value):
        super().__init__("not a lane of the width")
        self.value = value


class InvalidWord(BitError):
    """A value is no word, or none of as many bits as are there."""

    def __init__(self, value):
        super().__init__("not a word of so many bits")
        self.value = value


class InvalidShift(BitError):
    """A value is no shift within the width."""

    def __init__(self, value):
        super().__init__("not a shift within the width")
        self.value = value


class InvalidKind(BitError):
    """A word is none of a kind, or two kinds differ."""

    def __init__(self, value):
        super().__init__("not a word of a kind, or not the same kind")
        self.value = value


class InvalidLetters(BitError):
    """A value is no string of letters; `index` tells where it goes wrong."""

    def __init__(self, index):
        super().__init__(f"not letters, from index {index} on")
        self.index = index


class InvalidField(BitError):
    """A field breaks a rule."""

    def __init__(self, name, reason):
        super().__init__(f"not a field: {reason}")
        self.name = name
        self.reason = reason


class InvalidMap(BitError):
    """A register or a map of registers breaks a rule."""

    def __init__(self, name, reason):
        super().__init__(f"not a map: {reason}")
        self.name = name
        self.reason = reason


class NoName(BitError):
    """Nothing has this name."""

    def __init__(self, name):
        super().__init__("nothing has this name")
        self.name = name


class InvalidStep(BitError):
    """A step breaks a rule."""

    def __init__(self, reason):
        super().__init__(f"not a step: {reason}")
        self.reason = reason


class InvalidTask(BitError):
    """A task breaks a rule."""

    def __init__(self, name, reason):
        super().__init__(f"not a task: {reason}")
        self.name = name
        self.reason = reason


class InvalidSystem(BitError):
    """A system breaks a rule."""

    def __init__(self, name, index, reason):
        super().__init__(f"not a system: {reason} at index {index}")
        self.name = name
        self.index = index
        self.reason = reason


class NotEnabled(BitError):
    """A value is no enabled move."""

    def __init__(self, move):
        super().__init__("not an enabled move")
        self.move = move


class NotClosed(BitError):
    """A value is no item, or an item is lacking."""

    def __init__(self, item):
        super().__init__("not an item, or an item that is needed and not there")
        self.item = item


class TooLarge(BitError):
    """There is more than the limit."""

    def __init__(self, limit):
        super().__init__(f"more than {limit}")
        self.limit = limit


class InvalidText(BitError):
    """A text breaks the form of its lines."""

    def __init__(self, line, word):
        super().__init__(f"wrong text in line {line}, word {word}")
        self.line = line
        self.word = word


class UnknownCommand(BitError):
    """The desk does not know a line."""

    def __init__(self):
        super().__init__("unknown command")


class NoSystem(BitError):
    """The desk has no system yet."""

    def __init__(self):
        super().__init__("there is no system")


class NothingToUndo(BitError):
    """So many moves cannot be taken back."""

    def __init__(self, number):
        super().__init__("not a number of moves that can be taken back")
        self.number = number


class InvalidMost(BitError):
    """A value is no greatest number of moves."""

    def __init__(self, value):
        super().__init__("not a greatest number of moves")
        self.value = value


class Exhausted(BitError):
    """The greatest number of moves is reached."""

    def __init__(self, most):
        super().__init__(f"all {most} moves are made")
        self.most = most


class Stopped(BitError):
    """A machine has stopped, since its last move had faults."""

    def __init__(self, last):
        super().__init__("the last move had faults")
        self.last = last


class NoNeutral(BitError):
    """No letter can stand at a bit that is not meant."""

    def __init__(self, name, index):
        super().__init__(f"no letter may stand at bit {index} of a field that is not meant")
        self.name = name
        self.index = index


class NoShadow(BitError):
    """A register is no shadow register of another one."""

    def __init__(self, name, other):
        super().__init__("not a shadow of it")
        self.name = name
        self.other = other
