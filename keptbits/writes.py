"""What the Writes of tasks do to the items of a unit."""

from keptbits.fields import KeyRegister
from keptbits.kinds import SPENT


def bits_in(order, bits):
    """The list of the indexes of those of some bits (field name, i) that are items of an order."""
    return [order["bit", name, i] for name, i in bits if ("bit", name, i) in order]


def unmeant_bits(layout, order, means):
    """The list of (index, field name, i) for the bits that an access with these means must not move."""
    names = [field.name for field in layout.fields if field.name not in means and field.held is None]
    return [(order["bit", name, i], name, i) for name, i in layout.bits
            if name in names and ("bit", name, i) in order]


def note_moved(scene, before, bits):
    """Note the fault of each bit (index, field name, i) that has another value than before."""
    for at, name, i in bits:
        if scene.cells[at] != before[at]:
            scene.wrongs.append(("moved", name, i))


def progress_behind(progress, constants, word):
    """How far a key register is open behind a write of a word."""
    if progress < len(constants) and word == constants[progress]:
        return progress + 1
    return 1 if word == constants[0] else 0


class WrittenBit:
    """A bit that a Write writes with `flip`, inverted by the item at the index `origin` if there is one."""

    def __init__(self, layout, order, name, i, origin, flip):
        field = layout[name]
        self.name = name
        self.number = i
        self.at = order["bit", name, i]
        self.origin = origin
        self.flip = flip
        self.kind = field.kind
        self.is_held = field.held is not None
        self.has_back = field.commit is not None
        self.lock = None if field.lock is None else order["bit", field.lock, 0]
        self.key = None if field.key is None else order["key", field.key]
        self.length = 0 if field.key is None else len(layout[field.key].constants)
        self.fronts = bits_in(order, [bit for bit in layout.bits if layout[bit[0]].commit == name])

    def worth(self, cells):
        """The bit that is written."""
        if self.origin is None:
            return self.flip
        return cells[self.origin] ^ self.flip

    def is_guarded(self, cells):
        """Whether a lock, a key or an earlier write keeps the bit as it is."""
        if self.lock is not None and cells[self.lock] & 1 == 1:
            return True
        if self.key is not None and cells[self.key] < self.length:
            return True
        return self.kind.writing == "once" and cells[self.at] & SPENT != 0

    def left_by(self, cells):
        """The value that the write leaves where nothing guards the bit, ahead of a commit."""
        cell = cells[self.at]
        if self.is_held:
            return cell
        if self.has_back:
            return (cell & 1) + 2 * self.worth(cells)
        return self.kind.unguarded(cell, self.worth(cells))


class WritePlan:
    """What a Write of a task does to the items of a unit, which have the indexes of an order."""

    def __init__(self, layout, order, task, step):
        origins = {}
        if step.variable is not None:
            origins = {place: order.get(("var", task, step.variable, j)) for place, j in step.blend.sources()}
        inside = [(name, i, origins.get(place), (step.blend.flip >> place) & 1)
                  for place, name, i in layout.touched(step.port, step.lane)]
        outside = [(name, i, None, 0) for name, i in layout.beside(step.port, step.lane)]
        written = inside + outside
        self.means = step.means
        self.bits = [WrittenBit(layout, order, name, i, origin, flip) for name, i, origin, flip in written
                     if ("bit", name, i) in order]
        self.others = unmeant_bits(layout, order, step.means)
        names = sorted({layout[name].key for name, i, origin, flip in written if layout[name].key is not None})
        self.shut = [order["key", name] for name in names if ("key", name) in order]
        port = layout[step.port]
        self.constants = port.constants if isinstance(port, KeyRegister) else ()
        self.entrance = order.get(("key", step.port))
        self.word = step.blend.flip

    def perform(self, scene):
        """Carry out the Write."""
        before = list(scene.cells)
        for bit in self.bits:
            self.write_bit(scene, before, bit)
        for bit in self.bits:
            if bit.worth(before) == 1:
                for at in bit.fronts:
                    scene.cells[at] = (scene.cells[at] >> 1) * 3
        for at in self.shut:
            scene.cells[at] = 0
        if self.entrance is not None:
            scene.cells[self.entrance] = progress_behind(before[self.entrance], self.constants, self.word)
        note_moved(scene, before, self.others)

    def write_bit(self, scene, before, bit):
        """Carry out the write of one bit."""
        left = bit.left_by(before)
        if not bit.is_guarded(before):
            scene.cells[bit.at] = left
            if left & 1 == 0:
                scene.holding[bit.at] = 0
        elif bit.name in self.means and left != before[bit.at]:
            scene.wrongs.append(("barred", bit.name, bit.number))
