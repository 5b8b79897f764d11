"""The moves of a system, told a second time: bits by their names and tokens as objects, for the tests to compare with."""

import reckoned
from keptbits.steps import Pair, Read, Serve, Write


class Token:
    def __init__(self, name, i, mark):
        self.name, self.i, self.mark = name, i, mark


class BitCell:
    """A bit: its value, the back copy or copy, whether it is spent, and the token that it holds."""

    def __init__(self, value):
        self.value, self.second, self.spent, self.token = value, value, 0, None

    def shown(self, field):
        if field.commit is not None or field.held is not None:
            return self.value, self.second
        return self.value, self.spent


def blended(blend, word):
    """A blend's result, bit by bit, as [5] tells."""
    result = 0
    for j in range(blend.width):
        bit = blend.flip >> j & 1
        if blend.keep >> j & 1:
            bit ^= word >> j - blend.shift & 1
        result += bit << j
    return result


def reckoned_items(system):
    """All items of a system, sorted by what [14] tells of their order."""
    fields = [field.name for field in system.layout.fields]
    found = [("bit", field.name, i) for field in system.layout.fields for i in range(field.size)]
    found += [("key", port.name) for port in system.layout if hasattr(port, "constants")]
    pairs = [(task, step) for task in system for step in task.steps if isinstance(step, Pair)]
    found += [("latch", name) for name in fields if name in [step.field for task, step in pairs]]
    for task in system:
        bits = set()
        for step in task.steps:
            if isinstance(step, Read):
                bits |= {(step.variable, j) for j, name, i in system.layout.touched(step.port, step.lane)}
        found += [("var", task.name, *bit) for bit in sorted(bits)]
    for task in system:
        marks = {(name, fields.index(step.field)) for other, step in pairs if other is task
                 for name in (step.first, step.second)}
        found += [("mark", task.name, name, fields[k]) for name, k in sorted(marks)]
    return tuple(found)


class World:
    """A system that moves."""

    def __init__(self, system):
        self.system, self.layout = system, system.layout
        self.fields = {field.name: field for field in system.layout.fields}
        self.bits = {(name, i): BitCell(self.fields[name].reset >> i & 1) for name, i in system.layout.bits}
        self.progress = {port.name: 0 for port in system.layout if hasattr(port, "constants")}
        self.latches = {field.name: Token(field.name, 0, 2) for field in self.fields.values() if field.held}
        self.places = {task.name: 0 for task in system}
        self.words = {}
        self.marks = {}

    def bit(self, name):
        """The value of a field with one bit: its front, or its live bit."""
        return self.bits[name, 0].value

    def value(self, item):
        if item[0] == "bit":
            first, second = self.bits[item[1:]].shown(self.fields[item[1]])
            return first + 2 * second
        if item[0] == "key":
            return self.progress[item[1]]
        if item[0] == "var":
            return self.words.get(item[1:3], {}).get(item[3], (0, None))[0]
        return 0

    def token(self, item):
        if item[0] == "bit":
            return self.bits[item[1:]].token
        if item[0] == "latch":
            return self.latches[item[1]]
        if item[0] == "var":
            return self.words.get(item[1:3], {}).get(item[3], (0, None))[1]
        if item[0] == "mark":
            return self.marks.get(item[1:], None)
        return None

    def state(self, items):
        """The state over some items, as [15] writes it."""
        tokens, entries = [], []
        for item in items:
            token = self.token(item)
            if token is not None and token not in tokens:
                tokens.append(token)
            entries.append((self.value(item), 0 if token is None else tokens.index(token) + 1))
        places = tuple(self.places[task.name] for task in self.system)
        return places, tuple(entries), tuple((token.name, token.i, token.mark) for token in tokens)

    def held_tokens(self):
        found = [cell.token for cell in self.bits.values()] + list(self.latches.values())
        found += [token for word in self.words.values() for bit, token in word.values()]
        return [token for token in found + list(self.marks.values()) if token is not None]

    def enabled(self):
        found = []
        for (name, i), cell in self.bits.items():
            device = self.fields[name].device
            fresh = cell.value == 1 and cell.token is not None and cell.token.mark == 0
            if device == "raise" and not fresh or device == "end" and cell.value == 1 or device == "drift":
                found.append(("device", name, i))
        for task in self.system:
            others = [other for other in self.system if other.name != task.name]
            busy = [other for other in others if self.places[other.name] != 0 and other.core == task.core
                    and other.rank >= task.rank]
            if not busy and not [other for other in others if self.places[other.name] in other.holds]:
                found.append(("step", task.name))
        return sorted(found)

    def do(self, move):
        """Make an enabled move, and return its faults."""
        before = self.held_tokens()
        faults = self.deed(*move[1:]) if move[0] == "device" else self.step(self.system[move[1]])
        now = self.held_tokens()
        faults += [("lost", token.name, token.i) for token in before if token not in now and token.mark == 0]
        return tuple(sorted(set(faults)))

    def deed(self, name, i):
        cell, device = self.bits[name, i], self.fields[name].device
        if device == "raise":
            cell.value, cell.token = 1, Token(name, i, 0)
        else:
            cell.value, cell.token = (1 - cell.value if device == "drift" else 0), None
        return []

    def step(self, task):
        step = task.steps[self.places[task.name]]
        before = {at: cell.shown(self.fields[at[0]])[:1 if self.fields[at[0]].held else 2]
                  for at, cell in self.bits.items()}
        act = {Read: self.read, Write: self.write, Serve: self.serve, Pair: self.pair}[step.__class__]
        faults = act(task, step)
        for at, cell in self.bits.items():
            now = cell.shown(self.fields[at[0]])[:1 if self.fields[at[0]].held else 2]
            if isinstance(step, (Read, Write)) and now != before[at] and at[0] not in step.means:
                faults.append(("moved", *at))
        self.places[task.name] += 1
        if self.places[task.name] == len(task.steps):
            self.places[task.name] = 0
            self.words = {key: word for key, word in self.words.items() if key[0] != task.name}
            self.marks = {key: mark for key, mark in self.marks.items() if key[0] != task.name}
        if set(self.places.values()) == {0}:
            for first, second in self.system.mirrors:
                faults += [("parted", first, second, i) for i in range(self.fields[first].size)
                           if self.bits[first, i].value != self.bits[second, i].value]
        return faults

    def lanes(self, step):
        """The bits in the lane by their numbers there, and those beside."""
        touched = {j: (name, i) for j, name, i in self.layout.touched(step.port, step.lane)}
        return touched, list(self.layout.beside(step.port, step.lane))

    def read(self, task, step):
        inside, beside = self.lanes(step)
        acted = list(inside.values()) + beside
        for field in self.fields.values():
            if field.held in [name for name, i in acted]:
                self.latches[field.name] = Token(field.name, 0, 2)
                for i in range(field.size):
                    self.bits[field.name, i].second = self.bits[field.name, i].value
        word = {}
        for j, at in inside.items():
            cell = self.bits[at]
            bit = cell.second if self.fields[at[0]].held else cell.value
            word[j] = (bit, cell.token if bit else None)
        self.words[task.name, step.variable] = word
        shown = [name for name, i in inside.values()]
        for field in self.fields.values():
            if field.held:
                seen = self.latches[field.name] if field.name in shown or field.held in shown else None
                self.marks[task.name, step.variable, field.name] = seen
        for at in acted:
            if self.fields[at[0]].reading == "take":
                self.bits[at].value, self.bits[at].token = 0, None
        return []

    def write(self, task, step):
        inside, beside = self.lanes(step)
        word = 0
        if step.variable is not None:
            word = sum(bit << j for j, (bit, token) in self.words[task.name, step.variable].items())
        word = blended(step.blend, word)
        written = {at: word >> j & 1 for j, at in inside.items()}
        written.update({at: 0 for at in beside})
        guarded = [at for at in written if self.is_guarded(at)]
        faults = []
        ends = {at: self.written(at, bit) for at, bit in written.items()}
        for at, end in ends.items():
            cell, field = self.bits[at], self.fields[at[0]]
            if at not in guarded:
                cell.value, cell.second, cell.spent = end
            elif field.name in step.means and end != (cell.value, cell.second, cell.spent):
                faults.append(("barred", *at))
        for name in [name for (name, i), bit in written.items() if bit == 1]:
            for at, cell in self.bits.items():
                if self.fields[at[0]].commit == name:
                    cell.value = cell.second
        for name, i in written:
            if self.fields[name].key is not None:
                self.progress[self.fields[name].key] = 0
        if step.port in self.progress:
            self.write_key(step.port, word)
        for at in written:
            if self.bits[at].value == 0:
                self.bits[at].token = None
        return faults

    def is_guarded(self, at):
        field = self.fields[at[0]]
        if field.lock is not None and self.bit(field.lock) == 1 or self.bits[at].spent:
            return True
        return field.key is not None and self.progress[field.key] < len(self.layout[field.key].constants)

    def written(self, at, bit):
        """The value, second part and spent mark behind a write of a bit that nothing guards."""
        cell, field = self.bits[at], self.fields[at[0]]
        if field.commit is not None:
            return cell.value, bit, cell.spent
        words = (field.reading, field.writing, field.device)
        end = reckoned.after_write(words, cell.value, bit)
        return end % 2, cell.second, end // 2

    def write_key(self, port, word):
        constants, progress = self.layout[port].constants, self.progress[port]
        if progress < len(constants) and constants[progress] == word:
            self.progress[port] += 1
        else:
            self.progress[port] = int(constants[0] == word)

    def serve(self, task, step):
        faults = []
        for j, (bit, token) in self.words[task.name, step.variable].items():
            if step.mask >> j & 1 and bit == 1:
                if token is None or token.mark == 1:
                    faults.append(("extra", task.name, step.variable, j))
                else:
                    token.mark = 1
        return faults

    def pair(self, task, step):
        seen = [self.marks[task.name, name, step.field] for name in (step.first, step.second)]
        return [] if seen[0] is seen[1] else [("torn", task.name, step.first, step.second, step.field)]
