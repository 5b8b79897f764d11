import random
import unittest
from itertools import product

from keptbits.errors import BitError, InvalidLane, InvalidMap, InvalidWidth, NoName
from keptbits.fields import Field, KeyRegister, Register
from keptbits.maps import DeviceMap
from keptbits.words import lane_span, lanes_of
from samples import ODD_VALUES, refused, run_example, same

EXAMPLE = """
>>> from keptbits.fields import Field, Register
>>> from keptbits.maps import DeviceMap
>>> M = DeviceMap(8, Register("S", Field("DONE", 0, 1, writing="clear1", device="raise"), Field("MODE", 2, 2, reset=1)))
>>> [M.touched("S", "w"), M.bits, M.home("MODE"), "S" in M, len(M)]
[((0, 'DONE', 0), (2, 'MODE', 0), (3, 'MODE', 1)), (('DONE', 0), ('MODE', 0), ('MODE', 1)), 'S', True, 1]
"""
NO_WIDTHS = (*ODD_VALUES, 0, 1, 7, 9, 24, 64, "8", (8,), [32], 8 == 8)
NO_LANES = (*ODD_VALUES, "b", "b9", "h", "W", " w", 0, ["w"], ("w",), {"w": 0})


def large():
    """A map with each sort of register and field, the fields of a register not in the order of their places."""
    return DeviceMap(
        32,
        Register("CTRL", Field("MODE", 14, 4, reset=9), Field("GO", 31, 1, writing="set1", device="end", lock="LK"),
                 Field("LK", 0, 1, writing="once", lock="LK"), whole=True),
        KeyRegister("KEY", 1, 2 ** 32 - 1),
        Register("TIME", Field("HIGH", 8, 3, writing="none", device="drift", held="LOW"),
                 Field("LOW", 0, 3, writing="none", device="drift")),
        Register("OUT", Field("PWM", 4, 2, key="KEY", commit="LOAD"), Field("LOAD", 16, 1, writing="flip1")),
    )


PLACES = {
    "CTRL": {14: ("MODE", 0), 15: ("MODE", 1), 16: ("MODE", 2), 17: ("MODE", 3), 31: ("GO", 0), 0: ("LK", 0)},
    "KEY": {},
    "TIME": {8: ("HIGH", 0), 9: ("HIGH", 1), 10: ("HIGH", 2), 0: ("LOW", 0), 1: ("LOW", 1), 2: ("LOW", 2)},
    "OUT": {4: ("PWM", 0), 5: ("PWM", 1), 16: ("LOAD", 0)},
}
NAMES = ("CTRL", "KEY", "TIME", "OUT", "MODE", "GO", "LK", "HIGH", "LOW", "PWM", "LOAD")


def one_register(*fields, width=8):
    return DeviceMap(width, Register("R", *fields))


def wrong(test, name, reason, width, *registers):
    """A map is refused, by both ways to make it."""
    attributes = {"name": name, "reason": reason}
    refused(test, InvalidMap, attributes, DeviceMap, width, *registers)
    refused(test, InvalidMap, attributes, DeviceMap.of, width, list(registers))


class Parts(unittest.TestCase):
    def test_example(self):
        run_example(self, EXAMPLE)

    def test_registers_fields_and_bits(self):
        layout = large()
        self.assertTrue(same(layout.width, 32))
        self.assertEqual([port.name for port in layout.registers], list(NAMES[:4]))
        self.assertEqual([field.name for field in layout.fields], list(NAMES[4:]))
        self.assertTrue(same(layout.bits, (
            ("MODE", 0), ("MODE", 1), ("MODE", 2), ("MODE", 3), ("GO", 0), ("LK", 0), ("HIGH", 0), ("HIGH", 1),
            ("HIGH", 2), ("LOW", 0), ("LOW", 1), ("LOW", 2), ("PWM", 0), ("PWM", 1), ("LOAD", 0))))
        self.assertEqual([layout.registers.__class__, layout.fields.__class__], [tuple, tuple])
        empty = DeviceMap(8, Register("R"))
        self.assertTrue(same((empty.fields, empty.bits), ((), ())))

    def test_names(self):
        layout = large()
        parts = layout.registers + layout.fields
        for name, part in zip(NAMES, parts):
            self.assertIs(layout[name], part)
            self.assertIs(name in layout, True)
        for value in (*ODD_VALUES, "CTR", "ctrl", "R", 0, ["CTRL"], ("CTRL",), {"CTRL": 1}, "CTRL "):
            self.assertIs(value in layout, False)
            self.assertIs(value not in layout, True)
            refused(self, NoName, {"name": value}, lambda at: layout[at], value)
            refused(self, NoName, {"name": value}, layout.home, value)

    def test_homes(self):
        layout = large()
        for port in layout.registers:
            for field in port.fields:
                self.assertTrue(same(layout.home(name=field.name), port.name))
            refused(self, NoName, {"name": port.name}, layout.home, port.name)

    def test_length_and_iteration(self):
        for number in range(1, 5):
            ports = [Register(f"R{k}") for k in range(number)]
            layout = DeviceMap(16, *ports)
            self.assertTrue(same(len(layout), number))
            self.assertTrue(all(one is other for one, other in zip(layout, ports)))
            self.assertEqual(list(layout), ports)

    def test_of(self):
        ports = [Register("R", Field("A", 0, 1)), KeyRegister("K", 5)]
        for layout in (DeviceMap.of(8, ports), DeviceMap.of(registers=tuple(ports), width=8)):
            self.assertIs(layout.__class__, DeviceMap)
            self.assertTrue(same(layout.registers, tuple(ports)))
            self.assertEqual(layout, DeviceMap(8, *ports))
        layout = DeviceMap.of(8, ports)
        ports.clear()
        self.assertEqual(len(layout), 2)

    def test_equal_and_unequal(self):
        def made():
            a, b = Register("A", Field("F", 0, 1)), Register("B")
            return [DeviceMap(8, a), DeviceMap(16, a), DeviceMap(8, b), DeviceMap(8, a, b), DeviceMap(8, b, a),
                    DeviceMap(8, Register("A", Field("F", 0, 1), whole=True)), DeviceMap(8, KeyRegister("A", 1)),
                    DeviceMap(8, Register("A", Field("F", 0, 1, reset=1))), DeviceMap(8, KeyRegister("A", 2)),
                    DeviceMap(8, Register("A")), large()]

        for (at, one), (number, other) in product(enumerate(made()), enumerate(made())):
            self.assertIs(one == other, at == number)
            self.assertIs(one != other, at != number)
        for one, value in product(made(), (*ODD_VALUES, Register("A"), one_register().registers, 8)):
            self.assertIs(one == value, False)
            self.assertIs(value == one, False)


class Lanes(unittest.TestCase):
    def test_touched_and_beside(self):
        layout = large()
        for port, lane in product(PLACES, lanes_of(32)):
            low, size = lane_span(32, lane)
            inside = [(place - low, *bit) for place, bit in sorted(PLACES[port].items()) if 0 <= place - low < size]
            outside = [bit for place, bit in sorted(PLACES[port].items()) if not 0 <= place - low < size]
            self.assertTrue(same(layout.touched(port, lane), tuple(inside)), (port, lane))
            wanted = tuple(outside) if port == "CTRL" else ()
            self.assertTrue(same(layout.beside(port, lane), wanted), (port, lane))
        self.assertEqual(layout.touched(lane="b1", port="CTRL"), ((6, "MODE", 0), (7, "MODE", 1)))
        self.assertEqual(layout.beside(lane="h0", port="CTRL"), (("MODE", 2), ("MODE", 3), ("GO", 0)))

    def test_other_widths(self):
        for whole in (False, True):
            layout = DeviceMap(16, Register("R", Field("B", 7, 2), Field("A", 2, 1), whole=whole))
            self.assertEqual(layout.touched("R", "b0"), ((2, "A", 0), (7, "B", 0)))
            self.assertEqual(layout.touched("R", "b1"), ((0, "B", 1),))
            self.assertEqual(layout.beside("R", "w"), ())
            self.assertEqual(layout.beside("R", "b0"), (("B", 1),) if whole else ())
            self.assertEqual(layout.beside("R", "b1"), (("A", 0), ("B", 0)) if whole else ())

    def test_no_lanes_and_no_ports(self):
        layout = large()
        for call in (layout.touched, layout.beside):
            for port, lane in product(NAMES[:4], NO_LANES):
                if lane not in lanes_of(32):
                    refused(self, InvalidLane, {"value": lane}, call, port, lane)
            for port in (*ODD_VALUES, *NAMES[4:], "R", 0, ["CTRL"], ("CTRL",)):
                refused(self, NoName, {"name": port}, call, port, "w")
                refused(self, NoName, {"name": port}, call, port, None)
        narrow = one_register()
        for lane in ("b0", "b1", "h0"):
            refused(self, InvalidLane, {"value": lane}, narrow.touched, "R", lane)
            refused(self, InvalidLane, {"value": lane}, narrow.beside, "R", lane)


class Refusals(unittest.TestCase):
    def test_no_widths(self):
        for value in NO_WIDTHS:
            refused(self, InvalidWidth, {"value": value}, DeviceMap, value, Register("R"))
            refused(self, InvalidWidth, {"value": value}, DeviceMap.of, value, [Register("R")])
            refused(self, InvalidWidth, {"value": value}, DeviceMap, value)
            refused(self, InvalidWidth, {"value": value}, DeviceMap.of, value, None)

    def test_no_registers(self):
        port = Register("R")
        for value in (*ODD_VALUES, 8, "R", Field("A", 0, 1), [port], (port,), one_register()):
            for ports in ((value,), (port, value), (value, port), (port, port, value)):
                wrong(self, None, "registers", 8, *ports)
            if not isinstance(value, (list, tuple)) and not isinstance(value, DeviceMap):
                refused(self, InvalidMap, {"name": None, "reason": "registers"}, DeviceMap.of, 8, value)
        wrong(self, None, "registers", 8)
        wrong(self, None, "registers", 8, *[Register(f"R{k}") for k in range(5)])
        wrong(self, None, "registers", 8, *[port] * 5)

    def test_names_of_registers(self):
        wrong(self, "A", "name", 8, Register("A"), Register("A"))
        wrong(self, "B", "name", 8, Register("A"), Register("B"), KeyRegister("B", 1), Register("A"))
        wrong(self, "A", "name", 8, KeyRegister("A", 1), Register("B"), KeyRegister("A", 256))

    def test_constants(self):
        for width in (8, 16, 32):
            DeviceMap(width, KeyRegister("K", 2 ** width - 1, 0, 2 ** width - 1))
            if width < 32:
                for constants in ((2 ** width,), (0, 2 ** width), (1, 2, 2 ** 32 - 1)):
                    wrong(self, "K", "constants", width, Register("A"), KeyRegister("K", *constants))
        wrong(self, "K", "constants", 8, KeyRegister("K", 256), KeyRegister("L", 256), KeyRegister("K", 1))

    def test_names_of_fields(self):
        wrong(self, "A", "name", 8, Register("A", Field("A", 0, 1)))
        wrong(self, "B", "name", 8, Register("A", Field("B", 0, 1)), Register("B"))
        wrong(self, "K", "name", 8, Register("A", Field("K", 0, 1)), KeyRegister("K", 1))
        wrong(self, "F", "name", 8, Register("A", Field("F", 0, 1), Field("F", 1, 1)))
        wrong(self, "F", "name", 8, Register("A", Field("F", 0, 1)), Register("B", Field("G", 0, 1), Field("F", 1, 1)))

    def test_places(self):
        for width in (8, 16, 32):
            for size in range(1, 17):
                if size <= width:
                    one_register(Field("F", width - size, size), width=width)
                if width - size + 1 in range(0, 33 - size):
                    wrong(self, "F", "place", width, Register("R", Field("F", width - size + 1, size)))
        wrong(self, "G", "place", 8, Register("R", Field("F", 0, 8), Field("G", 8, 1)))

    def test_overlaps(self):
        for low, size in product(range(8), range(1, 9)):
            if low + size <= 8:
                ports = (Register("S", Field("E", 0, 8)), Register("R", Field("G", 5, 2), Field("F", low, size)))
                if low + size <= 5 or low >= 7:
                    DeviceMap(8, *ports)
                else:
                    wrong(self, "F", "overlap", 8, *ports)
        wrong(self, "G", "overlap", 8, Register("R", Field("E", 0, 1), Field("F", 4, 4), Field("G", 0, 1)))

    def test_sizes(self):
        ports = [Register("R", *[Field(f"R{k}", k, 1) for k in range(4)]),
                 Register("S", *[Field(f"S{k}", 3 * k, 3) for k in range(4)])]
        layout = DeviceMap(32, *ports)
        self.assertEqual((len(layout.fields), len(layout.bits)), (8, 16))
        wrong(self, None, "size", 32, *ports, Register("T", Field("F", 0, 1)))
        wrong(self, None, "size", 32, Register("R", *[Field(f"R{k}", k, 1) for k in range(9)]))
        one_register(Field("A", 0, 16), width=16)
        wrong(self, None, "size", 32, Register("R", Field("A", 0, 16), Field("B", 16, 1)))
        wrong(self, None, "size", 32, Register("R", Field("A", 0, 16)), Register("S", Field("B", 0, 16)))

    def test_locks(self):
        def ports(lock):
            return (Register("R", Field("F", 0, 2, lock=lock), Field("G", 2, 1, commit="L", lock="G")),
                    Register("S", Field("L", 0, 1), Field("H", 1, 1, writing="none", held="F")), KeyRegister("K", 1))

        for lock in ("L", "G", "H"):
            self.assertEqual(DeviceMap(8, *ports(lock))["F"].lock, lock)
        # no field at all, a field with two bits, registers
        for lock in ("NONE", "F", "R", "S", "K"):
            wrong(self, "F", "lock", 8, *ports(lock))
        self.assertEqual(one_register(Field("F", 0, 1, lock="F"))["F"].lock, "F")

    def test_keys(self):
        for key in ("K", "L"):
            DeviceMap(8, Register("R", Field("F", 0, 2, key=key)), KeyRegister("K", 1), KeyRegister("L", 2))
        for key in ("R", "S", "F", "G", "NONE"):
            wrong(self, "F", "key", 8, Register("R", Field("F", 0, 1, key=key), Field("G", 1, 1)), Register("S"),
                  KeyRegister("K", 1))

    def test_commits(self):
        def ports(*commits, **more):
            return (Register("R", Field("F", 0, 2, commit="C"), *commits, whole=True),
                    Register("S", Field("E", 0, 1)), KeyRegister("K", 1))

        for more in ({}, {"writing": "once"}, {"reading": "take", "writing": "flip1", "device": "raise"},
                     {"writing": "none", "device": "drift", "held": "E"}):
            DeviceMap(8, *ports(Field("C", 2, 1, **more)))
        for commit in (Field("C", 2, 2), Field("D", 2, 1), Field("C", 2, 1, lock="C"), Field("C", 2, 1, lock="E"),
                       Field("C", 2, 1, key="K"), Field("C", 2, 1, commit="E"), Field("C", 2, 1, commit="C")):
            wrong(self, "F", "commit", 8, *ports(commit))
        for name in ("F", "R", "S", "K"):
            wrong(self, "F", "commit", 8, Register("R", Field("F", 0, 1, commit=name)), Register("S"),
                  KeyRegister("K", 1))

    def test_held(self):
        def ports(name, **more):
            fields = Field("F", 0, 2, writing="none", held=name), Field("G", 2, 3, **more)
            return Register("R", *fields), Register("S"), KeyRegister("K", 1)

        for more in ({}, {"writing": "once", "device": "end"}, {"key": "K"}, {"reading": "take", "device": "raise"}):
            DeviceMap(8, *ports("G", **more))
        for held in ("F", "R", "S", "K", "NONE"):
            wrong(self, "F", "held", 8, *ports(held))
        wrong(self, "F", "held", 8, *ports("G", writing="none", held="H"), Register("T", Field("H", 0, 1)))
        wrong(self, "F", "held", 8, *ports("G", writing="none", held="F"))


class FirstOfTwo(unittest.TestCase):
    def test_the_order_of_reasons(self):
        twice = (Register("A"), Register("A"))
        fields = Register("B", Field("F", 8, 1), Field("F", 0, 1))
        refused(self, InvalidWidth, {"value": 9}, DeviceMap, 9, *twice)
        wrong(self, None, "registers", 8, *twice, None)
        wrong(self, "A", "name", 8, *twice, KeyRegister("K", 256))
        wrong(self, "K", "constants", 8, KeyRegister("K", 256), *twice)
        wrong(self, "A", "name", 8, fields, *twice)
        wrong(self, "K", "constants", 8, fields, KeyRegister("K", 256))
        wrong(self, "F", "place", 8, fields)
        wrong(self, "F", "name", 8, Register("F", *fields.fields))
        wrong(self, "G", "place", 8, Register("B", Field("F", 0, 8), Field("G", 7, 2)))
        wrong(self, "F", "name", 8, Register("B", Field("F", 0, 8), Field("F", 7, 2)))
        many = [Field(f"F{k}", k, 1) for k in range(9)]
        wrong(self, "F8", "place", 8, Register("B", *many))
        wrong(self, None, "size", 16, Register("B", *many[:8], Field("F8", 8, 1, lock="NONE")))
        wrong(self, "G", "overlap", 16, Register("B", *many[:8], Field("F8", 8, 1), Field("G", 8, 1)))

    def test_the_order_of_partners(self):
        four = {"lock": "X", "key": "X"}
        wrong(self, "F", "lock", 8, Register("R", Field("F", 0, 1, **four, commit="X")))
        wrong(self, "F", "key", 8, Register("R", Field("F", 0, 1, key="X", commit="X")))
        wrong(self, "F", "held", 8, Register("R", Field("F", 0, 1, writing="none", held="X"), Field("G", 1, 1, **four)))
        wrong(self, "G", "commit", 8, Register("R", Field("F", 0, 1), Field("G", 1, 1, commit="X")),
              Register("S", Field("H", 0, 1, lock="X")))
        # the one that names comes first, although the one that is named is wrong, too
        wrong(self, "F", "commit", 8, Register("R", Field("F", 0, 1, commit="C"), Field("C", 1, 1, lock="X")))
        wrong(self, "C", "lock", 8, Register("R", Field("C", 1, 1, lock="X"), Field("F", 0, 1, commit="C")))


def drawn_field(draw):
    names = ("A", "B", "C", "D", "R", "K")
    more = {}
    for word in ("lock", "key", "commit", "held"):
        if draw.random() < 0.2:
            more[word] = "K" if word == "key" and draw.random() < 0.8 else draw.choice(names)
    if "held" in more:
        more = {"held": more["held"], "writing": "none"}
    size = draw.choice((1, 1, 1, 2, 5))
    return Field(draw.choice(names[:4] + names), draw.randrange(0, 8), size, **more)


def drawn_registers(draw):
    ports = []
    for _ in range(draw.choice((1, 2, 2, 3))):
        if draw.random() < 0.3:
            ports.append(KeyRegister(draw.choice("KKL"), draw.choice((1, 1, 256))))
        else:
            ports.append(Register(draw.choice("RST"), *[drawn_field(draw) for _ in range(draw.randrange(4))]))
    return ports


def told(ports):
    """The name and reason of the error for a map of the width 8, or None, by the sentences of the document."""
    for at, port in enumerate(ports):
        if port.name in [other.name for other in ports[:at]]:
            return port.name, "name"
        if max(getattr(port, "constants", [0])) > 255:
            return port.name, "constants"
    every = [(port, field) for port in ports for field in port.fields]
    for at, (port, field) in enumerate(every):
        ahead = every[:at]
        if field.name in [each.name for each in ports] + [other.name for home, other in ahead]:
            return field.name, "name"
        if field.low + field.size > 8:
            return field.name, "place"
        for home, other in ahead:
            if home is port and other.low < field.low + field.size and field.low < other.low + other.size:
                return field.name, "overlap"
    if len(every) > 8 or sum(field.size for port, field in every) > 16:
        return None, "size"
    named = {field.name: field for port, field in every}
    bits = {name for name, field in named.items() if field.size == 1}
    committing = {name for name in bits if not (named[name].lock or named[name].key or named[name].commit)}
    keys = {port.name for port in ports if isinstance(port, KeyRegister)}
    for port, field in every:
        holding = {name for name, other in named.items() if other.held is None and name != field.name}
        for reason, right in (("lock", bits), ("key", keys), ("commit", committing), ("held", holding)):
            if getattr(field, reason) is not None and getattr(field, reason) not in right:
                return field.name, reason
    return None


class Drawn(unittest.TestCase):
    def test_drawn_maps(self):
        draw = random.Random(8)
        seen = {}
        for _ in range(6000):
            ports = drawn_registers(draw)
            wanted = told(ports)
            try:
                layout = DeviceMap(8, *ports)
                found = None
                self.assertEqual(list(layout), ports)
            except BitError as error:
                self.assertIs(error.__class__, InvalidMap)
                found = (error.name, error.reason)
            self.assertEqual(found, wanted)
            reason = None if wanted is None else wanted[1]
            seen[reason] = seen.get(reason, 0) + 1
        reasons = ("name", "constants", "place", "overlap", "lock", "key", "commit", "held", None)
        self.assertEqual([reason for reason in reasons if seen.get(reason, 0) < 20], [])


if __name__ == "__main__":
    unittest.main()
