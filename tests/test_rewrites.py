import random
import unittest

from drawn import drawn_map
from keptbits.blends import Blend
from keptbits.errors import InvalidLane, InvalidWord, NoName, NoNeutral
from keptbits.fields import Field, KeyRegister, Register
from keptbits.judge import judge
from keptbits.kinds import Kind
from keptbits.machine import Machine
from keptbits.maps import DeviceMap
from keptbits.neutral import neutral_write
from keptbits.rewrites import least_moves, moved_bits, narrowest_lane, set_by_reading, set_by_writing
from keptbits.steps import Read, Write
from keptbits.systems import System
from keptbits.tasks import Task
from keptbits.words import lane_span, lanes_of
from reckoned import ALL_WORDS
from samples import ODD_VALUES, refused, run_example, same

# fields over all sorts of lanes
LONG = DeviceMap(32, Register("R", Field("A", 0, 2), Field("B", 7, 2), Field("C", 15, 2, reset=1), Field("D", 24, 8)),
                 Register("W", Field("E", 17, 2), whole=True), KeyRegister("K", 1))
NO_FIELDS = (*ODD_VALUES, "R", "K", "X", "a", ["A"], ("A",), ("A", 0))
NO_LANES = [value for value in (*ODD_VALUES, "b4", "h2", "B0", "w ", ["w"], ("w",), 0) if value not in ("w", None)]
LANES_OF_LONG = {"A": ("b0", "h0", "w"), "B": ("h0", "w"), "C": ("w",), "D": ("b3", "h1", "w"), "E": ("w", "b2", "h1")}


def lanes_told(layout, name):
    """The lanes that have all bits of a field, the narrowest one first."""
    field, found = layout[name], []
    for lane in lanes_of(layout.width):
        low, size = lane_span(layout.width, lane)
        if set(range(field.low, field.low + field.size)) <= set(range(low, low + size)):
            found.append((size, lane))
    found = [lane for size, lane in sorted(found)]
    if layout[layout.home(name)].whole:
        found.remove("w")
        found.insert(0, "w")
    return tuple(found)


class Lanes(unittest.TestCase):
    def test_narrowest_lanes(self):
        for name, lanes in LANES_OF_LONG.items():
            self.assertEqual(narrowest_lane(LONG, name), lanes[0])
            self.assertEqual(narrowest_lane(name=name, layout=LONG), lanes[0])
            self.assertEqual(lanes_told(LONG, name), lanes)
        for value in NO_FIELDS:
            refused(self, NoName, {"name": value}, narrowest_lane, LONG, value)

    def test_drawn_maps(self):
        draw, found = random.Random(120), set()
        for _ in range(200):
            layout = drawn_map(draw)
            for field in layout.fields:
                lanes = lanes_told(layout, field.name)
                found.add((layout.width, lanes[0]))
                self.assertEqual(narrowest_lane(layout, field.name), lanes[0])
                for lane in (*lanes_of(32), None):
                    if lane in lanes or lane is None:
                        read, write = set_by_reading(layout, field.name, 0, lane=lane)
                        self.assertEqual((read.lane, write.lane), (lane or lanes[0],) * 2)
                    else:
                        for call in (set_by_reading, set_by_writing):
                            refused(self, InvalidLane, {"value": lane}, call, layout, field.name, 0, lane=lane)
                        refused(self, InvalidLane, {"value": lane},
                                lambda *args, lane: list(moved_bits(*args, lane=lane)), layout, field.name, lane=lane)
        self.assertTrue({(8, "w"), (16, "b0"), (16, "b1"), (16, "w"), (32, "w"), (32, "h0")} <= found, found)


class Setting(unittest.TestCase):
    def test_by_reading(self):
        self.assertEqual(set_by_reading(LONG, "A", 2), (Read("a", "R", "b0", "A"),
                                                        Write("R", "b0", Blend(32, 0, 252, 2), "A", variable="a")))
        self.assertEqual(set_by_reading(LONG, "C", 2), (Read("a", "R", "w", "C"), Write(
            "R", "w", (Blend(32) & (2 ** 32 - 1 - 3 * 2 ** 15)) | 2 ** 16, "C", variable="a")))
        self.assertEqual(set_by_reading(LONG, "E", 3, lane="b2", variable="z"), (Read("z", "W", "b2", "E"), Write(
            "W", "b2", Blend(32, 0, 249, 6), "E", variable="z")))
        # a constant, without the variable, if the field has all bits of the lane
        self.assertEqual(set_by_reading(LONG, "D", 255), (Read("a", "R", "b3", "D"),
                                                          Write("R", "b3", Blend.constant(32, 255), "D")))
        self.assertEqual(set_by_reading(value=1, name="D", layout=LONG, lane="h1", variable="b")[1],
                         Write("R", "h1", Blend(32, 0, 255, 256), "D", variable="b"))
        self.assertIs(set_by_reading(LONG, "A", 0).__class__, tuple)

    def test_by_writing(self):
        layout = DeviceMap(16, Register("S", Field("DONE", 0, 1, writing="clear1", device="raise"), Field("MODE", 1, 2),
                                        Field("FLAG", 9, 1, writing="clear0", device="raise"), Field("ONCE", 10, 1, writing="once")))
        self.assertEqual(set_by_writing(layout, "MODE", 3), (Write("S", "b0", Blend.constant(16, 6), "MODE"),))
        refused(self, NoNeutral, {"name": "MODE", "index": 0}, set_by_writing, layout, "DONE", 1)
        refused(self, NoNeutral, {"name": "MODE", "index": 0}, set_by_writing, layout, "DONE", 1, lane="w")
        refused(self, NoNeutral, {"name": "ONCE", "index": 0}, set_by_writing, layout, "MODE", 1, lane="w")
        self.assertEqual(set_by_writing(lane="b1", value=1, layout=layout, name="ONCE"),
                         (Write("S", "b1", Blend.constant(16, 2 + 4), "ONCE"),))
        self.assertEqual(set_by_writing(LONG, "E", 3), (Write("W", "w", Blend.constant(32, 3 << 17), "E"),))

    def test_drawn_maps(self):
        draw, many = random.Random(121), [0, 0]
        for _ in range(300):
            layout = drawn_map(draw)
            for field in layout.fields:
                name, value, port = field.name, draw.getrandbits(field.size), layout.home(field.name)
                lane = draw.choice(lanes_told(layout, name))
                low, size = lane_span(layout.width, lane)
                read, write = set_by_reading(layout, name, value, lane=lane, variable="q")
                self.assertEqual((read.port, write.port, read.means, write.means, read.variable), (port, port, (name,), (name,), "q"))
                place = field.low - low
                for word in (0, 2 ** size - 1, draw.getrandbits(size)):
                    wanted = sum((value >> j - place if 0 <= j - place < field.size else word >> j) % 2 << j for j in range(size))
                    self.assertEqual(write.blend(word), wanted)
                    self.assertEqual(write.variable, None if field.size == size else "q")
                try:
                    told, mask = neutral_write(layout, port, lane, name)
                except NoNeutral as error:
                    refused(self, NoNeutral, {"name": error.name, "index": error.index}, set_by_writing, layout, name, value, lane=lane)
                    many[0] += 1
                    continue
                many[1] += 1
                self.assertEqual(mask, (2 ** field.size - 1) << place)
                wanted = Write.of(port, lane, Blend.constant(layout.width, told + (value << place)), [name])
                self.assertEqual(set_by_writing(layout, name, value, lane=lane), (wanted,))
        self.assertGreater(min(many), 100)

    def test_a_field_is_set(self):
        """What the steps do to a machine, from any values of the other fields."""
        draw = random.Random(122)
        fields = [Field("A", 0, 3, reset=5), Field("B", 4, 4, reset=9), Field("C", 8, 2, writing="clear1", reset=0)]
        for whole in (False, True):
            layout = DeviceMap(16, Register("R", *fields, whole=whole))
            for name in "AB":
                for _ in range(20):
                    value = draw.getrandbits(layout[name].size)
                    for steps in (set_by_reading(layout, name, value), ):
                        machine = Machine(System(layout, Task.of("t", steps)))
                        machine.play(*["t"] * len(steps))
                        for other in layout.fields:
                            self.assertEqual(machine[other.name], value if other.name == name else other.reset)

    def test_errors(self):
        for call in (set_by_reading, set_by_writing):
            for name in NO_FIELDS:
                refused(self, NoName, {"name": name}, call, LONG, name, None, lane="x")
            for lane in NO_LANES:
                refused(self, InvalidLane, {"value": lane}, call, LONG, "A", None, lane=lane)
            for lane in ("b1", "b2", "h1"):
                refused(self, InvalidLane, {"value": lane}, call, LONG, "A", 4, lane=lane)
            for value in (*ODD_VALUES, 4, -1, "1", (1,)):
                refused(self, InvalidWord, {"value": value}, call, LONG, "A", value)
                refused(self, InvalidWord, {"value": value}, call, LONG, "A", value, lane="w")
        layout = DeviceMap(8, Register("S", Field("A", 0, 1), Field("B", 1, 1)), Register("T", Field("C", 0, 1), whole=True))
        refused(self, InvalidWord, {"value": 2}, set_by_writing, layout, "A", 2)
        refused(self, NoNeutral, {"name": "B", "index": 0}, set_by_writing, layout, "A", 1)
        self.assertEqual(narrowest_lane(layout, "C"), "w")


class Moved(unittest.TestCase):
    def test_the_example(self):
        run_example(self, """
>>> from keptbits.kinds import Kind
>>> from keptbits.rewrites import least_moves
>>> [least_moves(Kind("keep", "clear1", "raise"), 0), least_moves(Kind("keep", "store", "still"), 1), least_moves(Kind("keep", "clear0", "drift"), 1)]
[3, None, 4]
""")

    def test_each_kind(self):
        """The bit alone beside a field that is set: the shortest bad runs have so many moves."""
        found = set()
        for words in ALL_WORDS:
            kind = dict(zip(("reading", "writing", "device"), words))
            for reset in (0, 1) if words[2] != "raise" else (0,):
                for lane, beside in (("w", False), ("b0", False), ("b1", True)):
                    layout = DeviceMap(16, Register("R", Field("X", 3, 1, reset=reset, **kind),
                                                    Field("F", 8 if beside else 4, 2, writing="store", device="drift"), whole=beside))
                    task = Task.of("t", set_by_reading(layout, "F", 2, lane=lane))
                    verdict = judge(System(layout, task))
                    number = least_moves(Kind(*words), reset, beside=beside)
                    self.assertTrue(same(number, None if verdict.is_safe else len(verdict.run)), (words, reset, beside))
                    told = [("X", 0, number)] if number is not None else []
                    self.assertTrue(same(list(moved_bits(layout, "F", lane=lane)), told))
                    found.add((beside, number))
            self.assertEqual(least_moves(kind=Kind(*words), reset=0), least_moves(Kind(*words), 0, beside=False))
        self.assertEqual(found, {(False, None), (False, 1), (False, 2), (False, 3), (False, 4), (True, None), (True, 1), (True, 2),
                                 (True, 3)})

    def test_moved_bits(self):
        event = {"writing": "clear1", "device": "raise"}
        layout = DeviceMap(16, Register("R", Field("Z", 9, 2, writing="flip1", reset=1), Field("F", 4, 2), Field("E", 0, 2, **event),
                                        Field("P", 2, 1), Field("G", 12, 1, device="drift"), whole=True),
                           Register("S", Field("T", 0, 8, **event)))
        # beside, a flip1 is written with 0; in the order of bits, F itself left out
        self.assertTrue(same(list(moved_bits(layout, "F")), [("Z", 0, 2), ("E", 0, 3), ("E", 1, 3), ("G", 0, 3)]))
        self.assertTrue(same(list(moved_bits(layout, "F", lane="w")), list(moved_bits(name="F", layout=layout))))
        self.assertTrue(same(list(moved_bits(layout, "F", lane="b0")), [("E", 0, 3), ("E", 1, 3), ("G", 0, 3)]))
        self.assertTrue(same(list(moved_bits(layout, "G", lane="b1")), [("Z", 0, 2)]))
        layout = DeviceMap(16, Register("R", *layout["R"].fields), layout["S"])
        self.assertTrue(same(list(moved_bits(layout, "F")), [("E", 0, 3), ("E", 1, 3)]))
        self.assertTrue(same(list(moved_bits(layout, "G")), [("Z", 0, 2)]))
        # the reset is that of the bit
        layout = DeviceMap(8, Register("R", Field("F", 0, 1), Field("T", 1, 3, reading="take", reset=5)))
        self.assertTrue(same(list(moved_bits(layout, "F")), [("T", 0, 1), ("T", 2, 1)]))

    def test_errors(self):
        for name in NO_FIELDS:
            refused(self, NoName, {"name": name}, lambda *args: next(moved_bits(*args)), LONG, name)
            refused(self, NoName, {"name": name}, lambda *args: next(moved_bits(*args, lane=5)), LONG, name)
        for lane in (*NO_LANES, "b1"):
            refused(self, InvalidLane, {"value": lane}, lambda *args: next(moved_bits(*args, lane=lane)), LONG, "A")
        self.assertEqual(next(moved_bits(LONG, "A", lane="w"), None), None)

    def test_drawn_systems(self):
        """One task that sets a plain field: its shortest bad runs have the least of the numbers."""
        draw, found = random.Random(123), []
        for _ in range(120):
            fields, low = [], 0
            for name in "ABC"[:draw.randint(2, 3)]:
                size = draw.randint(1, 2)
                words = draw.choice(ALL_WORDS)
                kind = dict(zip(("reading", "writing", "device"), words))
                reset = 0 if words[2] == "raise" else draw.getrandbits(size)
                fields.append(Field(name, low, size, reset=reset, **kind))
                low += size + draw.choice((0, 1, 5))
            if fields[0].writing == "once" or fields[0].device == "raise":
                continue
            draw.shuffle(fields)
            layout = DeviceMap(16, Register("R", *fields, whole=draw.random() < 0.5))
            lane = draw.choice((None, *lanes_told(layout, "A")))
            steps = set_by_reading(layout, "A", draw.getrandbits(layout["A"].size), lane=lane)
            verdict = judge(System(layout, Task.of("t", steps)))
            numbers = [number for name, i, number in moved_bits(layout, "A", lane=lane)]
            self.assertEqual(verdict.is_safe, not numbers)
            if numbers:
                self.assertEqual(len(verdict.run), min(numbers))
                moved = [(fault[1], fault[2]) for fault in verdict.faults if fault[0] == "moved"]
                told = [(name, i) for name, i, number in moved_bits(layout, "A", lane=lane) if number == min(numbers)]
                self.assertTrue(set(moved) <= set(told) and moved)
            found.append(len(numbers))
        self.assertTrue({0, 1, 2, 3} <= set(found), found)


if __name__ == "__main__":
    unittest.main()
