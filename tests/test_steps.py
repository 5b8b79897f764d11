import re
import unittest
from itertools import permutations, product

from keptbits.blends import Blend
from keptbits.errors import InvalidStep
from keptbits.steps import Pair, Read, Serve, Step, Write
from samples import ODD_VALUES, refused, same

LANES = ("w", "b0", "b1", "b2", "b3", "h0", "h1")
NAMES = ("A", "Z9", "A_", "ABCDEFGH", "INT")
SOME = (*ODD_VALUES, 0, 1, ["A"], ("A",), {"A": 1}, "ab", "A", "a", "AB", "ABCDEFGHI", "9A", "a1", "b4", "h2")
NO_NAMES = [value for value in SOME if not isinstance(value, str) or not re.fullmatch("[A-Z][A-Z0-9_]{0,7}", value)]
NO_VARIABLES = [value for value in SOME if not isinstance(value, str) or not re.fullmatch("[a-z]", value)]
NO_LANES = [value for value in SOME if value not in LANES]
NO_MASKS = [value for value in (*ODD_VALUES, 0, -1, "1", [1], 2 ** 32) if isinstance(value, bool)
            or not isinstance(value, int) or not 0 < value < 2 ** 32]
NO_BLENDS = (*ODD_VALUES, 0, Blend, "Blend(8)", [Blend(8)], (Blend.constant(8, 1),))
# lists of names that are wrong in one of them, or have one twice
NO_MEANS = [names for value in NO_NAMES for names in ((value,), ("A", value), (value, "B", None))]
NO_MEANS += [("A", "A"), ("B", "A", "B"), ("A", "B", "A", None)]
CONSTANT, COPY = Blend.constant(8, 5), Blend(8)


def wrong(test, reason, call, *args, **more):
    refused(test, InvalidStep, {"reason": reason}, call, *args, **more)


def same_parts(step, **parts):
    return all(same(getattr(step, name), value) for name, value in parts.items())


class Reads(unittest.TestCase):
    def test_attributes(self):
        for variable, port, lane in product("az", NAMES, LANES):
            for means in ((), ("B",), ("C", "A", "B9")):
                for step in (Read(variable, port, lane, *means), Read.of(variable, port, lane, means),
                             Read.of(means=list(means), lane=lane, port=port, variable=variable)):
                    self.assertTrue(same_parts(step, variable=variable, port=port, lane=lane,
                                               means=tuple(sorted(means))))
                    self.assertEqual(step.__class__.__mro__[:2], (Read, Step))
        self.assertEqual(Read.of("a", "S", "w"), Read(variable="a", port="S", lane="w"))

    def test_texts(self):
        for call in (str, repr):
            self.assertTrue(same(call(Read("a", "S", "w")), "read a S w"))
            self.assertTrue(same(call(Read("z", "PORT_1", "h1", "ON", "A", "B_")), "read z PORT_1 h1 means A B_ ON"))

    def test_wrong_parameters(self):
        for value in NO_VARIABLES:
            wrong(self, "variable", Read, value, "S", "w")
            wrong(self, "variable", Read.of, value, "S", "w")
        for value in NO_NAMES:
            wrong(self, "port", Read, "a", value, "w")
        for value in NO_LANES:
            wrong(self, "lane", Read, "a", "S", value)
        for names in NO_MEANS:
            wrong(self, "means", Read, "a", "S", "w", *names)
            wrong(self, "means", Read.of, "a", "S", "w", names)
            wrong(self, "means", Read.of, "a", "S", "w", list(names))
        for value in SOME:
            if not isinstance(value, (list, tuple)):
                wrong(self, "means", Read.of, "a", "S", "w", value)

    def test_the_first_of_two_is_told(self):
        wrongs = {"variable": "A", "port": "a", "lane": None, "means": ["a"]}
        good = {"variable": "a", "port": "S", "lane": "w", "means": ()}
        for first, second in product(wrongs, repeat=2):
            told = min((first, second), key=list(wrongs).index)
            wrong(self, told, Read.of, **{**good, first: wrongs[first], second: wrongs[second]})


class Writes(unittest.TestCase):
    def test_attributes(self):
        for (blend, variable), port, lane in product(((CONSTANT, None), (COPY, "a"), (Blend(32, 3), "z")), NAMES, LANES):
            for means in ((), ("B",), ("C", "A", "B9")):
                for step in (Write(port, lane, blend, *means, variable=variable),
                             Write.of(port, lane, blend, means, variable),
                             Write.of(variable=variable, means=list(means), blend=blend, lane=lane, port=port)):
                    self.assertTrue(same_parts(step, port=port, lane=lane, variable=variable,
                                               means=tuple(sorted(means))))
                    self.assertEqual(step.blend, blend)
                    self.assertEqual(step.__class__.__mro__[:2], (Write, Step))
        self.assertEqual(Write.of("S", "w", CONSTANT), Write(blend=CONSTANT, lane="w", port="S"))

    def test_texts(self):
        for call in (str, repr):
            self.assertTrue(same(call(Write("S", "w", CONSTANT)), "write S w 5"))
            self.assertTrue(same(call(Write("S", "b1", Blend.constant(32, 2 ** 32 - 1), "ON", "A")),
                                 "write S b1 4294967295 means A ON"))
            self.assertTrue(same(call(Write("S", "w", COPY, "A", variable="a")), "write S w a 0 255 0 means A"))
            self.assertTrue(same(call(Write("S", "h0", Blend(16, -9, None, 3), variable="q")),
                                 "write S h0 q -9 127 3"))

    def test_wrong_parameters(self):
        for value in NO_NAMES:
            wrong(self, "port", Write, value, "w", CONSTANT)
        for value in NO_LANES:
            wrong(self, "lane", Write, "S", value, CONSTANT)
        for value in NO_BLENDS:
            wrong(self, "blend", Write, "S", "w", value)
            wrong(self, "blend", Write.of, "S", "w", value, (), "a")
        for names in NO_MEANS:
            wrong(self, "means", Write, "S", "w", CONSTANT, *names)
            wrong(self, "means", Write.of, "S", "w", COPY, list(names), "a")
        for value in SOME:
            if not isinstance(value, (list, tuple)):
                wrong(self, "means", Write.of, "S", "w", CONSTANT, value)
        for value in NO_VARIABLES:
            if value is not None:
                wrong(self, "variable", Write, "S", "w", COPY, variable=value)
                wrong(self, "variable", Write, "S", "w", CONSTANT, variable=value)

    def test_a_variable_is_there_if_the_blend_needs_one(self):
        for blend in (COPY, Blend(8, 3, 8), Blend(8) & 1, Blend(16, 15)):
            self.assertEqual(Write("S", "w", blend, variable="a").variable, "a")
            wrong(self, "variable", Write, "S", "w", blend)
            wrong(self, "variable", Write.of, "S", "w", blend, ("A",))
        for blend in (CONSTANT, Blend(8, 3, 7, 1), Blend(8) & 0, Blend(16, 16)):
            self.assertIs(Write("S", "w", blend).variable, None)
            wrong(self, "variable", Write, "S", "w", blend, variable="a")

    def test_the_first_of_two_is_told(self):
        wrongs = {"port": "a", "lane": "W", "blend": 5, "means": ["a"], "variable": 1}
        good = {"port": "S", "lane": "w", "blend": COPY, "means": (), "variable": "a"}
        for first, second in product(wrongs, repeat=2):
            told = min((first, second), key=list(wrongs).index)
            wrong(self, told, Write.of, **{**good, first: wrongs[first], second: wrongs[second]})
        wrong(self, "means", Write, "S", "w", COPY, "a")


class Serves(unittest.TestCase):
    def test_attributes_and_texts(self):
        for variable, mask in product("az", (1, 255, 256, 2 ** 31, 2 ** 32 - 1)):
            for step in (Serve(variable, mask), Serve(mask=mask, variable=variable)):
                self.assertTrue(same_parts(step, variable=variable, mask=mask))
                self.assertTrue(same((str(step), repr(step)), (f"serve {variable} {mask}",) * 2))
                self.assertEqual(step.__class__.__mro__[:2], (Serve, Step))

    def test_wrong_parameters(self):
        for value in NO_VARIABLES:
            wrong(self, "variable", Serve, value, 1)
            wrong(self, "variable", Serve, value, 0)
        for value in NO_MASKS:
            wrong(self, "mask", Serve, "a", value)


class Pairs(unittest.TestCase):
    def test_attributes_and_texts(self):
        for (first, second), field in product(permutations("abz", 2), NAMES):
            for step in (Pair(first, second, field), Pair(field=field, second=second, first=first)):
                self.assertTrue(same_parts(step, first=first, second=second, field=field))
                self.assertTrue(same((str(step), repr(step)), (f"pair {first} {second} {field}",) * 2))
                self.assertEqual(step.__class__.__mro__[:2], (Pair, Step))

    def test_wrong_parameters(self):
        for value in NO_VARIABLES:
            wrong(self, "first", Pair, value, "b", "H")
            wrong(self, "first", Pair, value, value, "h")
            wrong(self, "second", Pair, "a", value, "H")
            wrong(self, "second", Pair, "a", value, "h")
        wrong(self, "second", Pair, "a", "a", "H")
        for value in NO_NAMES:
            wrong(self, "field", Pair, "a", "b", value)


class Equality(unittest.TestCase):
    def test_equal_and_unequal(self):
        def made():
            return [
                Read("a", "S", "w"), Read("b", "S", "w"), Read("a", "T", "w"), Read("a", "S", "b0"),
                Read("a", "S", "w", "A"), Read("a", "S", "w", "A", "B"), Write("S", "w", CONSTANT),
                Write("T", "w", CONSTANT), Write("S", "b0", CONSTANT), Write("S", "w", Blend.constant(8, 4)),
                Write("S", "w", Blend.constant(16, 5)), Write("S", "w", CONSTANT, "A"), Write("S", "w", COPY, variable="a"),
                Write("S", "w", COPY, variable="b"), Write("S", "w", COPY, "A", variable="a"), Serve("a", 1),
                Serve("b", 1), Serve("a", 2), Pair("a", "b", "H"), Pair("b", "a", "H"), Pair("a", "c", "H"),
                Pair("c", "b", "H"), Pair("a", "b", "G"),
            ]

        for (at, one), (number, other) in product(enumerate(made()), enumerate(made())):
            self.assertIs(one == other, at == number, (one, other))
            self.assertIs(one != other, at != number, (one, other))
        for one in made():
            for value in (*ODD_VALUES, str(one), tuple(vars(one).values()), vars(one), Step()):
                self.assertIs(one == value, False)
                self.assertIs(value == one, False)
                self.assertIs(one != value, True)

    def test_the_order_of_means_plays_no_part(self):
        for means in permutations(("A", "B", "C9")):
            self.assertEqual(Read("a", "S", "w", *means), Read("a", "S", "w", "C9", "B", "A"))
            self.assertEqual(Write("S", "w", CONSTANT, *means), Write("S", "w", CONSTANT, "B", "A", "C9"))
        self.assertEqual(Write("S", "w", Blend(8, 3, 255), variable="a"), Write("S", "w", Blend(8, 3, 248), variable="a"))

    def test_a_list_that_changes_later(self):
        means = ["B", "A"]
        read, write = Read.of("a", "S", "w", means), Write.of("S", "w", CONSTANT, means)
        self.assertEqual(means, ["B", "A"])
        means.append(5)
        self.assertEqual((read.means, write.means), (("A", "B"), ("A", "B")))


if __name__ == "__main__":
    unittest.main()
