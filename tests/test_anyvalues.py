import unittest

from keptbits.anyvalues import copied, spelling
from keptbits.systems import System
from keptbits.units import Unit
from samples import ODD_VALUES, same
from test_moves import EARLY

ALIKE = (1, True, (1,), (True,), [1], [True], {1: 2}, {True: 2}, {1: True}, "1", "(1,)", "[1]", "{1: 2}", "None", None,
         (), [], {}, "", ((),), ([],), [()], "'", '"', "\n", "\\n", "\\", "', '", ("', '",), ("", ""), (", ",), ("a", "b"),
         ("a, b",), (1, 2), ((1, 2),), ((1,), 2), 12, "True", {"a": 1, "b": 2}, {"a": 1, "b": (2,)}, {"b": 1, "a": 2},
         {("a", 1): 1}, {("a", True): 1}, {"a": {"b": 1}}, {None: 1}, {"None": 1}, -1, "-1")


def lists_in(value):
    """All lists and dicts in a value."""
    found = [value] if isinstance(value, (list, dict)) else []
    if isinstance(value, (list, tuple)):
        return found + [one for part in value for one in lists_in(part)]
    if isinstance(value, dict):
        return found + [one for part in value.values() for one in lists_in(part)]
    return found


class AnyValues(unittest.TestCase):
    def test_spellings_tell_values_and_kinds_apart(self):
        values = (*ALIKE, *[value for value in ODD_VALUES if value not in ALIKE])
        for k, one in enumerate(values):
            for number, other in enumerate(values):
                self.assertIs(spelling(one) == spelling(other), k == number, (one, other))

    def test_the_order_of_dicts_plays_no_part(self):
        one = {"a": 1, 2: [{"c": 3, "d": (4,)}]}
        other = {2: [{"d": (4,), "c": 3}], "a": 1}
        self.assertEqual(spelling(one), spelling(other))
        self.assertEqual(spelling((one, other)), spelling((other, one)))
        self.assertNotEqual(spelling((1, 2)), spelling((2, 1)))

    def test_what_has_no_dict_is_spelt_as_repr_tells(self):
        unit = Unit.of_all(System.of_text(EARLY))
        state, _ = unit.after(unit.start, ("device", "READY", 0))
        for value in (*[value for value in ALIKE if "{" not in repr(value)], unit.start, state):
            self.assertEqual(spelling(value), repr(value))

    def test_copies(self):
        for value in (*ALIKE, *ODD_VALUES):
            copy = copied(value)
            self.assertTrue(same(copy, value))
            mine = [id(one) for one in lists_in(value)]
            self.assertFalse([one for one in lists_in(copy) if id(one) in mine])
        unit = Unit.of_all(System.of_text(EARLY))
        self.assertIs(copied((unit,))[0], unit)


if __name__ == "__main__":
    unittest.main()
