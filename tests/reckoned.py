"""The tables of the document about kinds, written out a second time, for the tests to compare with."""

from itertools import product

READINGS = ("keep", "take")
WRITINGS = ("store", "clear1", "clear0", "set1", "flip1", "once", "none")
DEVICES = ("still", "raise", "end", "drift")
ALL_WORDS = tuple(product(READINGS, WRITINGS, DEVICES))


def states(words):
    return (0, 1, 2, 3) if words[1] == "once" else (0, 1)


def after_read(words, state):
    """The state behind a read; a spent bit stays spent."""
    if words[0] == "keep":
        return state
    return {0: 0, 1: 0, 2: 2, 3: 2}[state]


def after_write(words, state, bit):
    """The state behind a write of 0 or 1."""
    if words[1] == "once":
        return {0: 2 + bit, 1: 2 + bit, 2: 2, 3: 3}[state]
    behind = {
        "store": ({0: 0, 1: 0}, {0: 1, 1: 1}),
        "clear1": ({0: 0, 1: 1}, {0: 0, 1: 0}),
        "clear0": ({0: 0, 1: 0}, {0: 0, 1: 1}),
        "set1": ({0: 0, 1: 1}, {0: 1, 1: 1}),
        "flip1": ({0: 0, 1: 1}, {0: 1, 1: 0}),
        "none": ({0: 0, 1: 1}, {0: 0, 1: 1}),
    }
    return behind[words[1]][bit][state]


def after_letter(words, state, letter):
    if letter == "r":
        return after_read(words, state)
    return after_write(words, state, {"0": 0, "1": 1}[letter])


def after_deed(words, state):
    """The state behind one deed, or None if there is none."""
    return {
        "still": {},
        "raise": {0: 1, 2: 3},
        "end": {1: 0, 3: 2},
        "drift": {0: 1, 1: 0, 2: 3, 3: 2},
    }[words[2]].get(state)


def with_deeds(words, found):
    """All states to which any number of deeds lead from one of those that are found."""
    found = set(found)
    while True:
        more = {after_deed(words, state) for state in found} - {None}
        if more <= found:
            return found
        found |= more


def ends(words, state, letters, quiet=False):
    """The ascending tuple of the states to which letters can lead, by a search."""
    found = {state} if quiet else with_deeds(words, {state})
    for letter in letters:
        found = {after_letter(words, each, letter) for each in found}
        if not quiet:
            found = with_deeds(words, found)
    return tuple(sorted(found))
