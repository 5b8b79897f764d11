"""Choices of some of several things."""


def choices(things, size):
    """The list of the tuples of so many things, each in the order of the things, in the order of their places."""
    if size == 0:
        return [()]
    found = []
    for k, thing in enumerate(things):
        found.extend([(thing, *rest) for rest in choices(things[k + 1:], size - 1)])
    return found


def all_choices(things):
    """The list of the tuples of some of the things, shorter ones first, otherwise as in `choices`."""
    found = []
    for size in range(len(things) + 1):
        found.extend(choices(things, size))
    return found
