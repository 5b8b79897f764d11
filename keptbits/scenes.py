"""Scenes: states on which a move is carried out."""

UNSERVED = 0
SERVED = 1
LATCHED = 2


class Scene:
    """A state taken apart, so that a move can change its parts; the state itself stays as it is."""

    def __init__(self, state):
        places, entries, tokens = state
        self.spots = list(places)
        self.cells = [cell for cell, token in entries]
        self.holding = [token for cell, token in entries]
        self.tokens = list(tokens)
        self.wrongs = []

    def renew(self, at, token):
        """Let the item at an index hold a new token, and no other one."""
        self.tokens.append(token)
        self.holding[at] = len(self.tokens)

    def blank(self, at):
        """Let the item at an index have the value 0 and hold nothing."""
        self.cells[at] = 0
        self.holding[at] = 0

    def load(self, at, origin, part):
        """Load an item from a part of another one, 0 or 1, with its token; from None it is loaded as 0."""
        self.blank(at)
        if origin is not None and (self.cells[origin] >> part) & 1 == 1:
            self.cells[at] = 1
            self.holding[at] = self.holding[origin]

    def serve(self, at):
        """Serve the unserved token that the item at an index holds, and return whether there is one."""
        number = self.holding[at]
        if number == 0:
            return False
        name, i, mark = self.tokens[number - 1]
        self.tokens[number - 1] = (name, i, SERVED)
        return mark == UNSERVED

    def result(self):
        """The pair of the state, with just the tokens that are held, and the ascending tuple of the faults."""
        numbers = {0: 0}
        held = []
        for token in self.holding:
            if token not in numbers:
                numbers[token] = len(numbers)
                held.append(self.tokens[token - 1])
        lost = [("lost", name, i) for number, (name, i, mark) in enumerate(self.tokens, 1)
                if mark == UNSERVED and number not in numbers]
        entries = tuple([(cell, numbers[token]) for cell, token in zip(self.cells, self.holding)])
        return (tuple(self.spots), entries, tuple(held)), tuple(sorted(set(self.wrongs + lost)))
