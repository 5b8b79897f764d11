"""The lines of a desk: what their words must be, and how moves, faults, gaps and items are written."""

from keptbits.effects import LETTERS
from keptbits.errors import InvalidText, UnknownCommand
from keptbits.texts import DIGITS, is_number
from keptbits.words import SMALL_LETTERS, is_name, is_task_name

MOST_DIGITS = 9
NONE = "-"
# For the first word of each line, the sorts of the words that must follow; behind `system` these are looked at later.
FORMS = {
    "system": ("text",),
    "text": (),
    "step": ("task",),
    "device": ("name", "number"),
    "back": ("number",),
    "moves": (),
    "places": (),
    "value": ("name",),
    "units": (),
    "judge": (),
    "holds": (),
    "neutral": ("name", "lane", "name"),
    "effect": ("reading", "writing", "device", "letters"),
}
# The first words of lines that can have more words, of the last sort.
LONGER = ("system", "neutral")


def consists_of(word, letters):
    """Whether a word has one or more characters, and these alone."""
    return len(word) > 0 and all([letter in letters for letter in word])


def fits(word, sort):
    """Whether a word of a line is written as one of a sort."""
    if sort == "text":
        return True
    if sort == "task":
        return is_task_name(word)
    if sort == "name":
        return is_name(word)
    if sort == "number":
        return is_number(word, MOST_DIGITS)
    if sort == "letters":
        return word == NONE or consists_of(word, LETTERS)
    return consists_of(word, SMALL_LETTERS + DIGITS)


def words_of(line):
    """The list of the words of a line, any value; raise UnknownCommand or InvalidText unless their form is right."""
    if not isinstance(line, str) or "\n" in line:
        raise UnknownCommand()
    words = line.split(" ")
    if words[0] not in FORMS:
        raise UnknownCommand()
    form = FORMS[words[0]]
    more = len(words) - 1 - len(form)
    if more < 0 or (more > 0 and words[0] not in LONGER):
        raise UnknownCommand()
    for index, word in enumerate(words[1:], 1):
        if not fits(word, form[min(index, len(form)) - 1]):
            raise InvalidText(0, index)
    return words


def phrase(parts):
    """A move, a fault or a gap, its parts separated by spaces."""
    return " ".join([str(part) for part in parts])


def phrases(rows):
    """Moves, faults or gaps, separated by commas."""
    return ", ".join([phrase(row) for row in rows])


def item_word(item):
    """The word of an item."""
    parts = [str(part) for part in item[1:]]
    return ".".join(parts + ["latch"] if item[0] == "latch" else parts)
