import random
import unittest
from itertools import product

from keptbits.errors import InvalidLane, InvalidWord, NoName
from keptbits.fields import Field, KeyRegister, Register
from keptbits.images import Image
from keptbits.maps import DeviceMap
from keptbits.words import lane_span, lanes_of
from samples import ODD_VALUES, refused, run_example, same

EXAMPLE = """
>>> from keptbits.fields import Field, Register
>>> from keptbits.maps import DeviceMap
>>> M = DeviceMap(8, Register("S", Field("DONE", 0, 1, writing="clear1", device="raise"), Field("MODE", 2, 2, reset=1)))
>>> from keptbits.images import Image
>>> image = Image(M, 255)
>>> [image["S"], image["MODE"], (~image)["S"], (image ^ Image(M)).numbers(), str(Image(M))]
[13, 3, 0, [9], 'DONE         0\\nMODE         1']
"""
NO_PLACES = (*ODD_VALUES, "s", "NONE", "S ", ("S", "w", 0), ("S",), ["S", "w"], {"S": "w"}, 0)


def layout_of(width):
    """A map with gaps between its fields, and with each sort of register."""
    return DeviceMap(
        width,
        Register("S", Field("LOW", 0, 3, reset=5), Field("TOP", width - 2, 2, reset=2)),
        KeyRegister("K", 3),
        Register("T", Field("MID", 3, 4, reset=9), Field("ONE", 1, 1, device="raise"), whole=True),
        Register("EMPTY"),
    )


MASKS = {8: (0xC7, 0, 0x7A, 0), 16: (0xC007, 0, 0x7A, 0), 32: (0xC0000007, 0, 0x7A, 0)}
PLACES = {"LOW": ("S", 0, 3), "MID": ("T", 3, 4), "ONE": ("T", 1, 1)}
PORTS = ("S", "K", "T", "EMPTY")


def places(width):
    """For each `at` that a map of the width has: the index of the register, the lowest bit and the size."""
    found = {port: (k, 0, width) for k, port in enumerate(PORTS)}
    for name, (port, low, size) in {**PLACES, "TOP": ("S", width - 2, 2)}.items():
        found[name] = (PORTS.index(port), low, size)
    for (k, port), lane in product(enumerate(PORTS), lanes_of(width)):
        found[port, lane] = (k, *lane_span(width, lane))
    return found


def words_of(image):
    return tuple(image[port] for port in PORTS)


def drawn(draw, width):
    return tuple(draw.getrandbits(width) for _ in PORTS)


class Values(unittest.TestCase):
    def test_example(self):
        run_example(self, EXAMPLE)

    def test_resets(self):
        for width in (8, 16, 32):
            image = Image(layout_of(width))
            self.assertTrue(same(words_of(image), (5 + (2 << width - 2), 0, 9 << 3, 0)))
            self.assertTrue(same([image[name] for name in ("LOW", "TOP", "MID", "ONE")], [5, 2, 9, 0]))
            self.assertEqual(image.layout, layout_of(width))

    def test_words_lose_the_bits_of_no_field(self):
        draw = random.Random(1)
        for width in (8, 16, 32) * 10:
            words = drawn(draw, width)
            image = Image(layout_of(width), *words)
            left = tuple(word & mask for word, mask in zip(words, MASKS[width]))
            self.assertTrue(same(words_of(image), left))
            for at, (k, low, size) in places(width).items():
                self.assertTrue(same(image[at], (left[k] >> low) % 2 ** size), at)

    def test_assignments(self):
        draw = random.Random(2)
        for width in (8, 16, 32) * 5:
            layout = layout_of(width)
            for at, (k, low, size) in places(width).items():
                image = Image(layout, *drawn(draw, width))
                wanted = list(words_of(image))
                for value in (0, 2 ** size - 1, draw.getrandbits(size)):
                    image[at] = value
                    kept = wanted[k] - ((wanted[k] >> low) % 2 ** size << low)
                    wanted[k] = (kept + (value << low)) & MASKS[width][k]
                    self.assertTrue(same(words_of(image), tuple(wanted)), at)

    def test_numbers(self):
        draw = random.Random(3)
        for width in (8, 16, 32) * 5:
            layout = layout_of(width)
            image = Image(layout, *drawn(draw, width))
            wanted = [byte for word in words_of(image) for byte in word.to_bytes(width // 8, "little")]
            self.assertTrue(same(image.numbers(), wanted))
            image.numbers().append(1)
            self.assertTrue(same(image.numbers(), wanted))
            for numbers in (wanted, tuple(wanted)):
                self.assertEqual(Image.of_numbers(layout, numbers), image)
                self.assertEqual(Image.of_numbers(numbers=numbers, layout=layout), image)
            full = Image.of_numbers(layout, [255] * len(wanted))
            self.assertEqual(words_of(full), MASKS[width])

    def test_text(self):
        layout = DeviceMap(16, Register("R", Field("A", 0, 16)))
        self.assertEqual(str(Image(layout)), "A            0")
        self.assertEqual(str(Image(layout, 65535)), "A        65535")
        ports = Register("R", Field("LONGNAME", 0, 7), Field("B", 7, 1)), Register("T", Field("C", 3, 4))
        self.assertEqual(str(Image(DeviceMap(8, *ports), 228, 255)), "LONGNAME   100\nB            1\nC           15")
        self.assertEqual(str(Image(DeviceMap(8, Register("R")))), "")


class Operators(unittest.TestCase):
    def test_bit_by_bit(self):
        draw = random.Random(4)
        for width in (8, 16, 32) * 10:
            layout, equal = layout_of(width), layout_of(width)
            one, other = Image(layout, *drawn(draw, width)), Image(equal, *drawn(draw, width))
            a, b = words_of(one), words_of(other)
            for told, words in ((one & other, [v & w for v, w in zip(a, b)]), (one | other, [v | w for v, w in zip(a, b)]),
                                (one ^ other, [v ^ w for v, w in zip(a, b)]),
                                (~one, [mask - v for v, mask in zip(a, MASKS[width])])):
                self.assertIs(told.__class__, Image)
                self.assertTrue(same(words_of(told), tuple(words)))
                told["LOW"] = told["LOW"] ^ 7
            self.assertTrue(same((words_of(one), words_of(other)), (a, b)))
            self.assertIs(one.within(other), all(v | w == w for v, w in zip(a, b)))
            self.assertIs((one & other).within(other=other), True)
            self.assertIs(one.within(one), True)

    def test_in_place(self):
        draw = random.Random(5)
        for width in (8, 16, 32) * 5:
            for sign in "&|^":
                one, other = (Image(layout_of(width), *drawn(draw, width)) for _ in "12")
                wanted = {"&": one & other, "|": one | other, "^": one ^ other}[sign]
                kept, before = one, words_of(other)
                if sign == "&":
                    one &= other
                elif sign == "|":
                    one |= other
                else:
                    one ^= other
                self.assertIs(one, kept)
                self.assertEqual(kept, wanted)
                self.assertEqual(words_of(other), before)
                other["LOW"] = other["LOW"] ^ 1
                self.assertEqual(one, wanted)
        image = Image(layout_of(8))
        image ^= image
        self.assertEqual(words_of(image), (0, 0, 0, 0))

    def test_equality(self):
        layout = layout_of(8)
        image = Image(layout)
        for other in (Image(layout_of(8)), Image(layout, *words_of(image)), ~~image, Image(layout, 0x85, 255, 72, 255)):
            self.assertIs(image == other, True)
            self.assertIs(image != other, False)
        # the same words on another map
        for other in (Image(layout, 0, 0, 0, 0), Image(layout_of(16)), ~image,
                      Image(DeviceMap(8, *[Register(f"R{k}", *port.fields) for k, port in enumerate(layout.registers)]))):
            self.assertIs(image == other, False)
        for value in (*ODD_VALUES, words_of(image), image.numbers(), layout):
            self.assertIs(image == value, False)
            self.assertIs(image != value, True)
        self.assertRaises(TypeError, iter, image)

    def test_an_image_is_its_own(self):
        layout = layout_of(8)
        numbers = [1, 2, 3, 4]
        one, other = Image.of_numbers(layout, numbers), Image(layout)
        numbers[0] = 7
        one["LOW"] = 2
        self.assertEqual((one["LOW"], other["LOW"], Image(layout)["LOW"]), (2, 5, 5))


class Refusals(unittest.TestCase):
    def test_words(self):
        layout = layout_of(8)
        for words in ((1,), (1, 2, 3), (0,) * 5, (None,), (-1,) * 3):
            refused(self, InvalidWord, {"value": None}, Image, layout, *words)
        for value in (*ODD_VALUES, 256, -1, "0", [0]):
            for words in ((value, 0, 0, 0), (0, value, 300, None), (1, 2, 3, value)):
                refused(self, InvalidWord, {"value": value}, Image, layout, *words)
        for width in (8, 16, 32):
            Image(layout_of(width), *[2 ** width - 1] * 4)
            refused(self, InvalidWord, {"value": 2 ** width}, Image, layout_of(width), 0, 0, 0, 2 ** width)

    def test_numbers(self):
        layout = layout_of(16)
        for numbers in (*ODD_VALUES, [0] * 7, [0] * 9, (0,) * 4, "00000000", {k: 0 for k in range(8)}, [None] * 7):
            refused(self, InvalidWord, {"value": None}, Image.of_numbers, layout, numbers)
        for value in (*ODD_VALUES, 256, -1, "0", [0]):
            for at in (0, 3, 7):
                numbers = [0] * at + [value] + [300] * (7 - at)
                refused(self, InvalidWord, {"value": value}, Image.of_numbers, layout, numbers)
                refused(self, InvalidWord, {"value": value}, Image.of_numbers, layout, tuple(numbers))

    def test_places(self):
        image = Image(layout_of(16))

        def put(at, value):
            image[at] = value

        for at in NO_PLACES:
            if isinstance(at, tuple) and len(at) == 2:
                continue
            for value in (0, -1, None):
                refused(self, NoName, {"name": at}, put, at, value)
            refused(self, NoName, {"name": at}, lambda place: image[place], at)
        for port in (*NO_PLACES, "LOW", "TOP"):
            for lane in ("w", "b2", None):
                refused(self, NoName, {"name": port}, lambda place: image[place], (port, lane))
                refused(self, NoName, {"name": port}, put, (port, lane), -1)
        for port, lane in product(PORTS, (*ODD_VALUES, "b2", "h0", "W", 0)):
            if lane not in ("w", "b0", "b1"):
                refused(self, InvalidLane, {"value": lane}, lambda place: image[place], (port, lane))
                refused(self, InvalidLane, {"value": lane}, put, (port, lane), -1)

    def test_values(self):
        image = Image(layout_of(16))
        before = words_of(image)

        def put(at, value):
            image[at] = value

        for at, (k, low, size) in places(16).items():
            for value in (*ODD_VALUES, -1, 2 ** size, "0", [0]):
                refused(self, InvalidWord, {"value": value}, put, at, value)
        self.assertEqual(words_of(image), before)


if __name__ == "__main__":
    unittest.main()
