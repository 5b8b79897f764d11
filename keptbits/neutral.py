"""Neutral letters, and writes that move no bit that is not meant."""

from keptbits.effects import LETTERS, ends_of_letter, ends_without_letters
from keptbits.errors import NoNeutral


def neutral_letters(kind):
    """The string of the letters that change no state of a kind."""
    same = ends_without_letters(kind, True)
    return "".join([letter for letter in LETTERS if ends_of_letter(kind, letter) == same])


def letters_for(layout, name, means):
    """The string of those of `0` and `1` that may stand at a written bit of a field."""
    letters = neutral_letters(layout[name].kind).replace("r", "")
    # a written 1 would also commit the fields that have this commit
    if all([field.name in means for field in layout.fields if field.commit == name]):
        return letters
    return letters.replace("1", "")


def least_letter(layout, name, i, means, letters):
    """The least one of some letters that may stand at a bit that is not meant."""
    for letter in letters:
        if letter in letters_for(layout, name, means):
            return int(letter)
    raise NoNeutral(name, i)


def neutral_write(layout, port, lane, *means):
    """(value, free): the least letters of the bits in a lane that are not meant, and the mask of those that are."""
    low, size = layout.span(port, lane)
    for name in means:
        # raises the error for what is no field's name
        layout.home(name)
    beside = layout.beside(port, lane)
    value = 0
    free = 0
    for place, name, i in layout.bit_places[port]:
        inside = low <= place < low + size
        if name not in means and inside:
            value = value | least_letter(layout, name, i, means, "01") << (place - low)
        elif name not in means and (name, i) in beside:
            least_letter(layout, name, i, means, "0")
        elif inside:
            free = free | 1 << (place - low)
    return value, free
