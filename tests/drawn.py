"""Systems that are drawn, with all sorts of fields, steps, tasks and mirrors."""

from keptbits.blends import Blend
from keptbits.errors import BitError
from keptbits.fields import Field, KeyRegister, Register
from keptbits.maps import DeviceMap
from keptbits.steps import Pair, Read, Serve, Write
from keptbits.systems import System
from keptbits.tasks import Task
from keptbits.words import lane_span, lanes_of

PORTS = ("R", "S", "T")
NAMES = ("A", "B", "C", "D", "E", "F", "G")
WRITINGS = ("store", "store", "clear1", "clear0", "set1", "flip1", "once", "none")


def made(call, *args, **more):
    """What a call returns, or None if it raises an error of the package."""
    try:
        return call(*args, **more)
    except BitError:
        return None


def drawn_field(draw, name, low, size, names):
    if draw.random() < 0.15:
        return Field(name, low, size, writing="none", device=draw.choice(("still", "drift")),
                     reset=draw.getrandbits(size), held=draw.choice(names))
    more = {}
    if draw.random() < 0.25:
        more["lock"] = draw.choice(names)
    if draw.random() < 0.2:
        more["key"] = "K"
    if draw.random() < 0.2:
        return Field(name, low, size, reset=draw.getrandbits(size), commit=draw.choice(names), **more)
    device = draw.choice(("still", "raise", "raise", "end", "drift"))
    return Field(name, low, size, reading=draw.choice(("keep", "keep", "take")), writing=draw.choice(WRITINGS),
                 device=device, reset=0 if device == "raise" else draw.getrandbits(size), **more)


def drawn_map(draw):
    """A map with one to three registers, and often a key register."""
    while True:
        width = draw.choice((8, 8, 16, 32))
        names = list(NAMES[:draw.randint(1, 7)])
        draw.shuffle(names)
        rows = {port: [] for port in PORTS[:draw.randint(1, 3)]}
        for name in names:
            rows[draw.choice(list(rows))].append(name)
        ports = []
        for port, row in rows.items():
            low, fields = draw.randrange(width // 2), []
            for name in row:
                size = draw.choice((1, 1, 1, 2, 3))
                fields.append(made(drawn_field, draw, name, low % (width - 2), size, names))
                low += size + draw.choice((0, 0, 1, width // 3))
            ports.append(made(Register, port, *fields, whole=draw.random() < 0.4))
        if draw.random() < 0.6:
            keys = [draw.choice((1, 1, 2, 255)) for _ in range(draw.randint(1, 3))]
            ports.insert(draw.randint(0, len(ports)), KeyRegister("K", *keys))
        layout = made(DeviceMap, width, *ports)
        if layout is not None:
            return layout


def drawn_blend(draw, width, size):
    full = 2 ** size - 1
    blend = draw.choice((Blend(width), Blend(width), Blend(width, draw.randint(-3, 3)), Blend(width) ^ 255 % 2 ** width))
    return ((blend & full) & draw.choice((full, full, draw.getrandbits(size)))) | draw.choice((0, 0, 1 << size // 2))


def drawn_step(draw, layout):
    lane = draw.choice(("w", *lanes_of(layout.width)))
    size = lane_span(layout.width, lane)[1]
    names = [field.name for field in layout.fields]
    means = [name for name in names if draw.random() < 0.6]
    port = draw.choice([port.name for port in layout])
    held = [field.name for field in layout.fields if field.held]
    sort = draw.choice(("read", "read", "read", "write", "write", "write", "constant", "key", "serve", "pair", "pair"))
    if sort == "read":
        return Read.of(draw.choice("ab"), port, lane, means)
    if sort == "write":
        return made(Write.of, port, lane, drawn_blend(draw, layout.width, size), means, draw.choice("ab"))
    if sort == "constant":
        return Write.of(port, lane, Blend.constant(layout.width, draw.getrandbits(size)), means)
    if sort == "key":
        return Write.of("K", "w", Blend.constant(layout.width, draw.choice((1, 1, 2, 255))), means)
    if sort == "serve":
        mask = draw.choice((255, 2 ** layout.width - 1, 1 << draw.randrange(layout.width)))
        return Serve(draw.choice("ab"), mask)
    return Pair(*draw.choice(("ab", "ba")), draw.choice(held)) if held else None


def drawn_pair(draw, layout):
    """Two Reads and a Pair of a held field, if there is one."""
    held = [field for field in layout.fields if field.held]
    if not held:
        return []
    field = draw.choice(held)
    reads = [Read.of(variable, layout.home(name), draw.choice(lanes_of(layout.width)), [field.name for field in layout.fields if draw.random() < 0.7])
             for variable, name in (("a", field.held), ("b", field.name))]
    return [*reads, Pair("a", "b", field.name)]


def drawn_steps(draw, layout, many):
    """A row of steps that a task on the map can have."""
    steps = []
    ahead = drawn_pair(draw, layout) if draw.random() < 0.7 else []
    for _ in range(200):
        longer = [*steps, ahead[0] if ahead and draw.random() < 0.8 else drawn_step(draw, layout)]
        task = made(Task, "x", *longer)
        if task is not None and made(System, layout, task) is not None:
            steps = longer
            ahead = ahead[1:] if longer[-1] in ahead[:1] else ahead
        if len(steps) == many:
            break
    return steps


def drawn_system(draw):
    """A system; never None."""
    while True:
        layout = drawn_map(draw)
        sizes = draw.choice(((2,), (6,), (3, 3), (4, 3), (6, 4), (3, 3, 3), (5, 4, 1), (1, 2, 1)))
        names = draw.sample(("main", "irq", "tick", "z"), len(sizes))
        tasks = []
        for name, many in zip(names, sizes):
            steps = drawn_steps(draw, layout, many)
            holds = tuple(k for k in range(1, len(steps)) if draw.random() < 0.15)
            tasks.append(made(Task.of, name, steps, core=draw.randrange(2), rank=draw.randrange(3), holds=holds))
        pairs = [(one.name, other.name) for one in layout.fields for other in layout.fields
                 if made(System, layout, tasks[0], mirrors=((one.name, other.name),)) is not None]
        mirrors = tuple(draw.choice(pairs) for _ in range(draw.choice((0, 1, 2, 3, 3))) if pairs)
        system = made(System, layout, *tasks, mirrors=mirrors)
        if system is not None:
            return system
