"""Widths, words, lanes, names, and what any value is."""

from keptbits.errors import InvalidLane, InvalidWidth, InvalidWord

LANES = {
    8: ("w",),
    16: ("w", "b0", "b1"),
    32: ("w", "b0", "b1", "b2", "b3", "h0", "h1"),
}
PART_SIZES = {"b": 8, "h": 16}
CAPITALS = "ABCDEFGHIJKLMNOPQRSTUVWXYZ"
SMALL_LETTERS = "abcdefghijklmnopqrstuvwxyz"
NAME_LETTERS = "ABCDEFGHIJKLMNOPQRSTUVWXYZ_0123456789"
LONGEST_NAME = 8


def is_int(value):
    """Whether any value is an integer, which a bool is not."""
    return isinstance(value, int) and not isinstance(value, bool)


def is_width(value):
    """Whether any value is a width."""
    return is_int(value) and value in LANES


def is_plain(value):
    """Whether any value is a tuple of strings and integers alone.

    Such tuples can be looked up, and are equal only if the kinds of their parts are equal, too.
    """
    return isinstance(value, tuple) and all([isinstance(part, str) or is_int(part) for part in value])


def full_word(size):
    """The word of so many bits that are all 1."""
    return (1 << size) - 1


def is_word(value, size):
    """Whether any value is a word of so many bits."""
    return is_int(value) and 0 <= value <= full_word(size)


def check_word(value, size):
    """Raise InvalidWord for any value that is not a word of so many bits."""
    if not is_word(value, size):
        raise InvalidWord(value)


def lanes_of(width):
    """The tuple of the lanes of a width."""
    if not is_width(width):
        raise InvalidWidth(width)
    return LANES[width]


def lane_span(width, lane):
    """The pair of a lane's lowest bit and its number of bits."""
    if lane not in lanes_of(width):
        raise InvalidLane(lane)
    if lane == "w":
        return 0, width
    size = PART_SIZES[lane[0]]
    return int(lane[1]) * size, size


def has_only(value, letters):
    """Whether any value is a string with the length of a name and of these letters alone."""
    if not isinstance(value, str) or not 1 <= len(value) <= LONGEST_NAME:
        return False
    return all([letter in letters for letter in value])


def is_name(value):
    """Whether any value can name a register or field."""
    return has_only(value, NAME_LETTERS) and value[0] in CAPITALS


def is_task_name(value):
    """Whether any value can name a task."""
    return has_only(value, SMALL_LETTERS)


def is_variable(value):
    """Whether any value is a variable."""
    return has_only(value, SMALL_LETTERS) and len(value) == 1
