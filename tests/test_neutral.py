import random
import unittest
from itertools import product

import reckoned
from keptbits.errors import InvalidLane, NoName, NoNeutral
from keptbits.fields import Field, KeyRegister, Register
from keptbits.kinds import Kind
from keptbits.maps import DeviceMap
from keptbits.neutral import neutral_letters, neutral_write
from keptbits.words import lanes_of
from samples import ODD_VALUES, refused, run_example, same

EXAMPLE = """
>>> from keptbits.fields import Field, Register
>>> from keptbits.maps import DeviceMap
>>> M = DeviceMap(8, Register("S", Field("DONE", 0, 1, writing="clear1", device="raise"), Field("MODE", 2, 2, reset=1)))
>>> from keptbits.kinds import Kind
>>> from keptbits.neutral import neutral_letters, neutral_write
>>> [neutral_letters(Kind("keep", "store", "still")), neutral_letters(Kind("take", "clear0", "still")), neutral_write(M, "S", "w", "MODE")]
['r', '1', (0, 12)]
"""
# The letters of writes that change nothing, by the table of [4].
WRITES = {"store": "", "clear1": "0", "clear0": "1", "set1": "0", "flip1": "0", "once": "", "none": "01"}


def written(name, low, writing, **more):
    return Field(name, low, 1, writing=writing, **more)


def whole_map():
    """A map of a whole and a plain register whose bits take different letters."""
    return DeviceMap(
        16,
        Register("P", written("ZERO", 0, "clear0"), written("FLIP", 3, "flip1"), Field("PLAIN", 9, 2),
                 Field("DEAF", 12, 2, writing="none")),
        Register("Q", written("ONES", 2, "clear1"), written("DROP", 9, "clear0"), written("SEAL", 12, "once"),
                 whole=True),
        KeyRegister("K", 1),
    )


def refuse(test, name, i, layout, *arguments):
    refused(test, NoNeutral, {"name": name, "index": i}, neutral_write, layout, *arguments)


class Letters(unittest.TestCase):
    def test_example(self):
        run_example(self, EXAMPLE)
        done = Field("DONE", 0, 1, writing="clear1", device="raise")
        refuse(self, "MODE", 0, DeviceMap(8, Register("S", done, Field("MODE", 2, 2, reset=1))), "S", "w", "DONE")

    def test_all_kinds(self):
        for words in reckoned.ALL_WORDS:
            wanted = WRITES[words[1]] + {"keep": "r", "take": ""}[words[0]]
            self.assertTrue(same(neutral_letters(Kind(*words)), wanted), words)
            moved = [letter for letter in "01r" if any(reckoned.after_letter(words, state, letter) != state
                                                       for state in reckoned.states(words))]
            self.assertEqual(set(moved), set("01r") - set(wanted))
        self.assertEqual(neutral_letters(kind=Kind("take", "none", "raise")), "01")


class Writes(unittest.TestCase):
    def test_values_and_masks(self):
        layout = whole_map()
        self.assertTrue(same(neutral_write(layout, "P", "b0"), (1, 0)))
        self.assertTrue(same(neutral_write(layout, "P", "b0", "ZERO"), (0, 1)))
        self.assertTrue(same(neutral_write(layout, "P", "b0", "FLIP", "PLAIN"), (1, 8)))
        self.assertTrue(same(neutral_write(layout, "P", "b1", "PLAIN"), (0, 6)))
        self.assertTrue(same(neutral_write(layout, "P", "w", "DEAF", "PLAIN"), (1, 0x3600)))
        self.assertTrue(same(neutral_write(layout, "K", "w"), (0, 0)))
        self.assertTrue(same(neutral_write(layout, "K", "b1", "PLAIN"), (0, 0)))
        self.assertTrue(same(neutral_write(port="P", lane="b0", layout=layout), (1, 0)))

    def test_bits_beside(self):
        layout = whole_map()
        # DROP takes a 1 in its own lane, and nothing beside
        self.assertTrue(same(neutral_write(layout, "Q", "b1", "SEAL"), (2, 16)))
        self.assertTrue(same(neutral_write(layout, "Q", "b0", "SEAL", "DROP"), (0, 0)))
        self.assertTrue(same(neutral_write(layout, "Q", "b0", "SEAL", "ONES", "DROP"), (0, 4)))
        refuse(self, "DROP", 0, layout, "Q", "b0", "SEAL")
        refuse(self, "DROP", 0, layout, "Q", "b0")
        refuse(self, "SEAL", 0, layout, "Q", "b0", "DROP")
        refuse(self, "SEAL", 0, layout, "Q", "w")
        # in a register that is not whole there are none
        self.assertTrue(same(neutral_write(layout, "P", "b0", "PLAIN"), (1, 0)))

    def test_the_lowest_bit_is_told(self):
        layout = DeviceMap(32, Register("R", Field("HIGH", 20, 3), written("LOW", 1, "store"), Field("MID", 8, 2),
                                        whole=True))
        refuse(self, "LOW", 0, layout, "R", "h1")
        refuse(self, "LOW", 0, layout, "R", "w")
        refuse(self, "MID", 0, layout, "R", "b1", "LOW")
        refuse(self, "MID", 0, layout, "R", "h1", "LOW")
        refuse(self, "HIGH", 0, layout, "R", "b0", "MID", "LOW")
        self.assertEqual(neutral_write(layout, "R", "h1", "LOW", "HIGH", "MID"), (0, 0x70))
        # a field whose bits lie in two lanes
        layout = DeviceMap(16, Register("R", Field("F", 6, 4)))
        refuse(self, "F", 0, layout, "R", "b0")
        refuse(self, "F", 2, layout, "R", "b1")

    def test_a_commit_takes_a_one_only_if_its_fields_are_meant(self):
        def layout(writing):
            return DeviceMap(8, Register("R", written("C", 0, writing), written("D", 1, writing)),
                             Register("T", Field("F", 0, 2, commit="C"), Field("G", 3, 1, commit="C")))

        self.assertEqual(neutral_write(layout("clear0"), "R", "w", "F", "G"), (3, 0))
        self.assertEqual(neutral_write(layout("clear0"), "R", "w", "C"), (2, 1))
        for means in ((), ("F",), ("G", "D"), ("F", "D")):
            refuse(self, "C", 0, layout("clear0"), "R", "w", *means)
            self.assertEqual(neutral_write(layout("none"), "R", "w", *means)[0], 0)
            self.assertEqual(neutral_write(layout("set1"), "R", "w", *means)[0], 0)

    def test_such_writes_move_no_bit_that_is_not_meant(self):
        draw = random.Random(7)
        told = 0
        for _ in range(1500):
            layout = drawn_map(draw)
            lane = draw.choice(lanes_of(layout.width))
            means = [field.name for field in layout.fields if draw.random() < 0.6]
            told += self.check_write(layout, lane, means)
        self.assertGreater(told, 300)

    def check_write(self, layout, lane, means):
        """The answer is the least one by a search over the bits, and moves no bit; 1 if there is one."""
        touched = {(name, i): j for j, name, i in layout.touched("R", lane)}
        bits = sorted((layout[name].low + i, name, i) for name, i in layout.bits
                      if (name, i) in touched or (name, i) in layout.beside("R", lane))
        value = free = 0
        for place, name, i in bits:
            field = layout[name]
            letters = [bit for bit in ((0, 1) if (name, i) in touched else (0,))
                       if all(field.kind.after_write(state, bit) == state for state in field.kind.states)
                       and (bit == 0 or all(other.name in means for other in layout.fields if other.commit == name))]
            if name in means:
                free += 2 ** touched.get((name, i), 0) if (name, i) in touched else 0
            elif letters:
                value += min(letters) << touched.get((name, i), 0)
            else:
                refuse(self, name, i, layout, "R", lane, *means)
                return 0
        self.assertTrue(same(neutral_write(layout, "R", lane, *means), (value, free)))
        return 1


def drawn_map(draw):
    width = draw.choice((8, 16, 32))
    low, fields = draw.randrange(3), []
    for name in "ABCDE":
        size = draw.choice((1, 1, 2))
        if low + size <= width and draw.random() < 0.8:
            writing = draw.choice(("clear1", "clear0", "set1", "none", "store", "once", "flip1"))
            fields.append(Field(name, low, size, writing=writing, reading=draw.choice(("keep", "take"))))
        low += size + draw.choice((0, 1, 5))
    commits = [field.name for field in fields if field.size == 1] + [None] * 2
    others = [Field(name, 3 * k, 2, commit=draw.choice(commits)) for k, name in enumerate("XY")]
    return DeviceMap(width, Register("R", *fields, whole=draw.random() < 0.5), Register("T", *others))


class Refusals(unittest.TestCase):
    def test_names_and_lanes(self):
        layout = whole_map()
        for port in (*ODD_VALUES, "ZERO", "R", ("P",)):
            for rest in (("w",), (None, None), ("b0", "NONE")):
                refused(self, NoName, {"name": port}, neutral_write, layout, port, *rest)
        for lane in (*ODD_VALUES, "b2", "W", 0):
            if lane != "w":
                refused(self, InvalidLane, {"value": lane}, neutral_write, layout, "P", lane)
                refused(self, InvalidLane, {"value": lane}, neutral_write, layout, "Q", lane, None)
        for name in (*ODD_VALUES, "P", "K", "NONE", ["PLAIN"]):
            refused(self, NoName, {"name": name}, neutral_write, layout, "P", "w", name)
            refused(self, NoName, {"name": name}, neutral_write, layout, "P", "w", "PLAIN", name, "ALSO")
            refused(self, NoName, {"name": name}, neutral_write, layout, "K", "w", name)

    def test_fields_that_are_meant_twice_or_elsewhere(self):
        layout = whole_map()
        self.assertEqual(neutral_write(layout, "P", "w", "PLAIN", "ONES", "PLAIN"), (1, 0x600))


if __name__ == "__main__":
    unittest.main()
