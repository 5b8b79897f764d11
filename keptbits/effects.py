"""Effects: where letters, and the deeds of the device among them, can lead a bit."""

from keptbits.errors import InvalidKind, InvalidLetters

LETTERS = "01r"
MOST_LETTERS = 40


def check_letters(value):
    """Raise InvalidLetters for any value that is no string of letters."""
    if not isinstance(value, str):
        raise InvalidLetters(0)
    for index, letter in enumerate(value[:MOST_LETTERS]):
        if letter not in LETTERS:
            raise InvalidLetters(index)
    if len(value) > MOST_LETTERS:
        raise InvalidLetters(MOST_LETTERS)


def check_same_kind(a, b):
    """Raise InvalidKind if the kinds of two effects differ."""
    if a.kind != b.kind:
        raise InvalidKind(b.kind)


def ends_without_letters(kind, quiet):
    """For each state, the ascending tuple of its ends if nothing is read or written."""
    if quiet:
        return tuple([(state,) for state in kind.states])
    # A second deed can only take the first one back, so at most one deed shows all ends.
    return tuple([tuple(sorted([state] + list(kind.deeds(state)))) for state in kind.states])


def ends_of_letter(kind, letter):
    """For each state, the tuple of its one end behind a letter alone."""
    if letter == "r":
        return tuple([(kind.after_read(state),) for state in kind.states])
    return tuple([(kind.after_write(state, int(letter)),) for state in kind.states])


def joined(first, second):
    """For each state, the ascending tuple of the ends of the first table and then the second one."""
    return tuple([tuple(sorted({end for middle in ends for end in second[middle]})) for ends in first])


def either(first, second):
    """For each state, the ascending tuple of the ends that it has in one of two tables or in both."""
    return tuple([tuple(sorted(set(one + other))) for one, other in zip(first, second)])


class Effect:
    """A kind, and for each of its states the ascending tuple of the ends."""

    def __init__(self, kind, ends):
        self.kind = kind
        self.ends = ends

    @classmethod
    def of(cls, kind, letters, *, quiet=False):
        """The effect of letters, done from left to right; the quiet one is that without deeds."""
        check_letters(letters)
        between = ends_without_letters(kind, quiet)
        ends = between
        for letter in letters:
            ends = joined(joined(ends, ends_of_letter(kind, letter)), between)
        return cls(kind, ends)

    def __call__(self, state):
        return self.ends[state]

    def pairs(self):
        """Yield the pairs (state, end), ascending."""
        for state in self.kind.states:
            for end in self.ends[state]:
                yield state, end

    def __mul__(self, other):
        check_same_kind(self, other)
        return Effect(self.kind, joined(self.ends, other.ends))

    def __or__(self, other):
        check_same_kind(self, other)
        return Effect(self.kind, either(self.ends, other.ends))

    def within(self, b):
        """Whether each pair of this effect is one of the effect b."""
        check_same_kind(self, b)
        return all([end in b.ends[state] for state in self.kind.states for end in self.ends[state]])

    def __eq__(self, other):
        return isinstance(other, Effect) and self.kind == other.kind and self.ends == other.ends


def all_effects(kind, *, quiet=False):
    """Yield (letters, effect) for each effect that letters have, with its first letters, in their order."""
    steps = [(letter, Effect.of(kind, letter, quiet=quiet)) for letter in LETTERS]
    nothing = Effect.of(kind, "", quiet=quiet)
    seen = {nothing.ends: True}
    found = [("", nothing)]
    # If letters are the first ones of their effect, so they are without the last one:
    # otherwise earlier letters could take their place. So only first letters grow.
    while len(found) > 0:
        longer = []
        for letters, effect in list(found):
            yield letters, effect
            for letter, step in steps:
                grown = effect * step
                if grown.ends not in seen:
                    seen[grown.ends] = True
                    longer.append((letters + letter, grown))
        found = longer


def shortest(kind, letters, *, quiet=False):
    """The first letters, in the order of letters, that have the same effect as these."""
    wanted = Effect.of(kind, letters, quiet=quiet)
    found = [first for first, effect in all_effects(kind, quiet=quiet) if effect == wanted]
    return found[0]


def effect_parting(a, b):
    """The least pair that is in one of two effects alone, or None."""
    check_same_kind(a, b)
    for state in a.kind.states:
        for end in a.kind.states:
            if (end in a.ends[state]) != (end in b.ends[state]):
                return state, end
    return None
