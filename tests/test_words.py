import unittest

from keptbits.errors import InvalidLane, InvalidWidth, InvalidWord
from keptbits.words import (check_word, full_word, is_int, is_name, is_task_name, is_variable, is_width, is_word,
                            lane_span, lanes_of)
from samples import ODD_VALUES, refused, same

SPANS = {
    8: {"w": (0, 8)},
    16: {"w": (0, 16), "b0": (0, 8), "b1": (8, 8)},
    32: {"w": (0, 32), "b0": (0, 8), "b1": (8, 8), "b2": (16, 8), "b3": (24, 8), "h0": (0, 16), "h1": (16, 16)},
}
NO_WIDTHS = ODD_VALUES + tuple(range(0, 8)) + (9, 15, 17, 24, 31, 33, 64, -8, "w", "b0", (16,), [32])
NO_LANES = ODD_VALUES + ("b9", "b-1", "b00", "B0", "h3", "h", "w0", "bb", "b0 ", "b0\n", 0, 1, 8, 16, 32,
                         ("w", "b0"), ["b0"], {"b0": 0})
PRINTABLE = [chr(code) for code in range(32, 127) if code != 37] + ["\n"]
CAPITALS = [chr(code) for code in range(65, 91)]
SMALL = [chr(code) for code in range(97, 123)]
DIGITS = [chr(code) for code in range(48, 58)]


class Lanes(unittest.TestCase):
    def test_lanes_of_each_width(self):
        self.assertTrue(same(lanes_of(8), ("w",)))
        self.assertTrue(same(lanes_of(16), ("w", "b0", "b1")))
        self.assertTrue(same(lanes_of(width=32), ("w", "b0", "b1", "b2", "b3", "h0", "h1")))

    def test_span_of_each_lane(self):
        for width, spans in SPANS.items():
            for lane, span in spans.items():
                self.assertTrue(same(lane_span(width, lane), span), (width, lane))
        self.assertEqual(lane_span(lane="b2", width=32), (16, 8))

    def test_lanes_of_other_widths(self):
        for width, spans in SPANS.items():
            for lane in SPANS[32]:
                if lane not in spans:
                    refused(self, InvalidLane, {"value": lane}, lane_span, width, lane)

    def test_no_width(self):
        for value in NO_WIDTHS:
            refused(self, InvalidWidth, {"value": value}, lanes_of, value)
            refused(self, InvalidWidth, {"value": value}, lane_span, value, "w")

    def test_no_lane(self):
        for width in SPANS:
            for value in NO_LANES:
                refused(self, InvalidLane, {"value": value}, lane_span, width, value)

    def test_the_width_is_told_first(self):
        for value in NO_WIDTHS:
            for lane in NO_LANES[:20]:
                refused(self, InvalidWidth, {"value": value}, lane_span, value, lane)


class Words(unittest.TestCase):
    def test_integers(self):
        for value in (0, 1, -1, 8, 10 ** 59, -(10 ** 59)):
            self.assertIs(is_int(value), True)
        for value in ODD_VALUES:
            self.assertIs(is_int(value), isinstance(value, int) and value not in (True, False), value)

    def test_widths(self):
        for value in (8, 16, 32):
            self.assertIs(is_width(value), True)
        for value in NO_WIDTHS:
            self.assertIs(is_width(value), False, value)

    def test_words_of_each_size(self):
        for size in range(1, 33):
            full = 2 ** size - 1
            self.assertTrue(same(full_word(size), full))
            for value in (0, 1, full // 2, full):
                self.assertIs(is_word(value, size), True)
                check_word(value, size)
            for value in (-1, full + 1, -full, True, False, None, str(full), [full], (full,), {full: full}):
                self.assertIs(is_word(value, size), False)
                refused(self, InvalidWord, {"value": value}, check_word, value, size)


class Names(unittest.TestCase):
    def test_characters_of_names(self):
        for letter in PRINTABLE:
            self.assertIs(is_name(letter), letter in CAPITALS, letter)
            self.assertIs(is_name("A" + letter), letter in CAPITALS + DIGITS + ["_"], letter)
            self.assertIs(is_name("ABCD" + letter + "Z"), letter in CAPITALS + DIGITS + ["_"], letter)

    def test_characters_of_task_names_and_variables(self):
        for letter in PRINTABLE:
            self.assertIs(is_task_name(letter), letter in SMALL, letter)
            self.assertIs(is_task_name("a" + letter), letter in SMALL, letter)
            self.assertIs(is_task_name(letter + "a"), letter in SMALL, letter)
            self.assertIs(is_variable(letter), letter in SMALL, letter)

    def test_lengths(self):
        for length in range(0, 12):
            self.assertIs(is_name("A" * length), 1 <= length <= 8)
            self.assertIs(is_task_name("a" * length), 1 <= length <= 8)
            self.assertIs(is_variable("a" * length), length == 1)

    def test_other_values(self):
        for value in (None, True, 0, 8, (), ("A",), ["A"], ("a",), ["a"], {}, {"A": 1}, {"a": 1}, [], "x" * 6000):
            self.assertIs(is_name(value), False)
            self.assertIs(is_task_name(value), False)
            self.assertIs(is_variable(value), False)


if __name__ == "__main__":
    unittest.main()
