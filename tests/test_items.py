import random
import unittest

from drawn import drawn_system
from keptbits.errors import NotClosed
from keptbits.items import closure, items_of, needs
from keptbits.steps import Read, Write
from keptbits.systems import System
from samples import ODD_VALUES, refused, same
from world import blended, reckoned_items

TEXT = """width 16
port S whole
field EV 0 2 take clear1 raise 0 lock LK key OTHER
field LK 9 1 keep store still 0 lock LK
key OTHER 1
port T
field HIGH 8 1 keep none drift 0 held LOW
field LOW 0 2 keep none drift 0
field PWM 4 2 keep store still 0 key KEY commit GO
field GO 7 1 keep set1 end 0
key KEY 3 4
task main 0 0
read b S w means EV
write T b0 b 4 48 0 means PWM
serve b 1
task irq 0 1
read c T b0
read a T w
pair c a HIGH
write S b1 a 1 2 0 means LK"""
ITEMS = (
    ("bit", "EV", 0), ("bit", "EV", 1), ("bit", "LK", 0), ("bit", "HIGH", 0), ("bit", "LOW", 0), ("bit", "LOW", 1),
    ("bit", "PWM", 0), ("bit", "PWM", 1), ("bit", "GO", 0), ("key", "OTHER"), ("key", "KEY"), ("latch", "HIGH"),
    ("var", "main", "b", 0), ("var", "main", "b", 1), ("var", "main", "b", 9),
    ("var", "irq", "a", 0), ("var", "irq", "a", 1), ("var", "irq", "a", 4), ("var", "irq", "a", 5),
    ("var", "irq", "a", 7), ("var", "irq", "a", 8),
    ("var", "irq", "c", 0), ("var", "irq", "c", 1), ("var", "irq", "c", 4), ("var", "irq", "c", 5),
    ("var", "irq", "c", 7), ("mark", "irq", "a", "HIGH"), ("mark", "irq", "c", "HIGH"),
)
NEEDS = {
    ("bit", "EV", 0): (("bit", "LK", 0), ("key", "OTHER"), ("var", "main", "b", 0)),
    ("bit", "EV", 1): (("bit", "LK", 0), ("key", "OTHER"), ("var", "main", "b", 1)),
    ("bit", "LK", 0): (("bit", "LK", 0), ("var", "irq", "a", 0)),
    ("bit", "HIGH", 0): (),
    ("bit", "PWM", 0): (("bit", "GO", 0), ("key", "KEY"), ("var", "main", "b", 0)),
    ("bit", "PWM", 1): (("bit", "GO", 0), ("key", "KEY"), ("var", "main", "b", 1)),
    ("bit", "GO", 0): (),
    ("key", "KEY"): (),
    ("latch", "HIGH"): (),
    ("var", "main", "b", 9): (("bit", "LK", 0),),
    ("var", "irq", "a", 8): (("bit", "HIGH", 0),),
    ("mark", "irq", "c", "HIGH"): (("latch", "HIGH"),),
}


def is_needed(system, item, other):
    """Whether an item needs another one itself, sentence by sentence as [21] tells it."""
    layout = system.layout
    if item[0] == "mark":
        return other == ("latch", item[3])
    if item[0] == "var":
        return other[0] == "bit" and any(
            isinstance(step, Read) and step.variable == item[2]
            and (item[3], *other[1:]) in layout.touched(step.port, step.lane) for step in system[item[1]].steps)
    if item[0] != "bit":
        return False
    field = layout[item[1]]
    if other in (("bit", field.lock, 0), ("bit", field.commit, 0), ("key", field.key)):
        return True
    if other[0] != "var":
        return False
    for step in system[other[1]].steps:
        if isinstance(step, Write) and step.variable == other[2]:
            turned = blended(step.blend, 0) ^ blended(step.blend, 1 << other[3])
            for j, name, i in layout.touched(step.port, step.lane):
                if (name, i) == item[1:] and turned >> j & 1:
                    return True
    return field.device == "raise" and is_needed(system, other, item)


class Items(unittest.TestCase):
    def system(self):
        return System.of_text(TEXT)

    def test_items(self):
        system = self.system()
        self.assertTrue(same(items_of(system), ITEMS))
        self.assertTrue(same(items_of(system=system), ITEMS))
        self.assertTrue(same(items_of(System.of_text("width 8\nport S\ntask a 0 0\nread a S w")), ()))

    def test_needs(self):
        system = self.system()
        for item, wanted in NEEDS.items():
            self.assertTrue(same(needs(system, item), wanted), item)
        self.assertTrue(same(needs(item=("latch", "HIGH"), system=system), ()))

    def test_closures(self):
        system = self.system()
        self.assertTrue(same(closure(system), ()))
        self.assertTrue(same(closure(system, ("key", "KEY")), (("key", "KEY"),)))
        wanted = (("bit", "LOW", 0), ("latch", "HIGH"), ("var", "irq", "c", 0), ("mark", "irq", "a", "HIGH"))
        for items in ((wanted[2], wanted[3]), (wanted[3], wanted[2], wanted[2], wanted[1])):
            self.assertTrue(same(closure(system, *items), wanted))
        wanted = (("bit", "EV", 1), ("bit", "LK", 0), ("bit", "LOW", 0), ("bit", "PWM", 1), ("bit", "GO", 0),
                  ("key", "OTHER"), ("key", "KEY"), ("var", "main", "b", 1), ("var", "irq", "a", 0))
        self.assertTrue(same(closure(system, ("bit", "PWM", 1)), wanted))

    def test_drawn_systems(self):
        draw = random.Random(30)
        for _ in range(200):
            system = drawn_system(draw)
            items = items_of(system)
            self.assertTrue(same(items, reckoned_items(system)))
            table = {item: tuple(other for other in items if is_needed(system, item, other)) for item in items}
            for item in draw.sample(items, min(6, len(items))):
                self.assertTrue(same(needs(system, item), table[item]), (item, str(system)))
            some = draw.sample(items, min(draw.randrange(3), len(items)))
            found = set(some)
            while not all(other in found for item in found for other in table[item]):
                found |= {other for item in found for other in table[item]}
            self.assertTrue(same(closure(system, *some), tuple(item for item in items if item in found)))

    def test_no_items(self):
        system = self.system()
        for value in (*ODD_VALUES, ("bit", "EV", 2), ("bit", "EV", True), ("bit", "EV", False), ["bit", "EV", 0],
                      ("bit", "EV"), ("bit", "EV", 0, 0), ("key", "S"), ("latch", "LOW"), ("var", "main", "b", 2),
                      ("var", "main", "a", 0), ("mark", "main", "b", "HIGH"), ("key", ["OTHER"]), ("bit", "EV", (0,)),
                      ("bit", "EV", None), (("bit", "EV", 0),), "bit", ("Bit", "EV", 0), {"bit": "EV"}):
            attributes = {"item": value}
            refused(self, NotClosed, attributes, needs, system, value)
            for items in ((value,), (ITEMS[0], value, None), (value, ITEMS[0], ITEMS[0])):
                refused(self, NotClosed, attributes, closure, system, *items)


if __name__ == "__main__":
    unittest.main()
