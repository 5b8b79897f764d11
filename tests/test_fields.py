import re
import unittest
from itertools import product

import reckoned
from keptbits.errors import InvalidField, InvalidKind, InvalidMap
from keptbits.fields import Field, KeyRegister, Register
from keptbits.kinds import Kind
from samples import ODD_VALUES, refused, same

NAMES = ("A", "Z9", "A_", "ABCDEFGH", "X0000000", "Q_______", "INT")
NO_NAMES = [value for value in (*ODD_VALUES, "a", "9A", "_A", "ABCDEFGHI", "A-B", "A b", "A\n", "Ab", 0, ["A"], ("A",))
            if not isinstance(value, str) or not re.fullmatch("[A-Z][A-Z0-9_]{0,7}", value)]
PARAMETERS = ("name", "low", "size", "reading", "writing", "device", "reset", "lock", "key", "commit", "held")
PARTNERS = ("lock", "key", "commit", "held")


def parts_of(field):
    return tuple(getattr(field, name) for name in PARAMETERS)


def no_integers(least, most):
    """Values that are no integer from the least to the most."""
    return [value for value in (*ODD_VALUES, least - 1, most + 1, [least], (most,), str(least), {least: most})
            if isinstance(value, bool) or not isinstance(value, int) or not least <= value <= most]


class Attributes(unittest.TestCase):
    def test_defaults(self):
        field = Field("A", 3, 2)
        self.assertTrue(same(parts_of(field), ("A", 3, 2, "keep", "store", "still", 0, None, None, None, None)))
        self.assertEqual(field.kind, Kind("keep", "store", "still"))

    def test_all_kinds(self):
        for reading, writing, device in reckoned.ALL_WORDS:
            reset = 0 if device == "raise" else 5
            field = Field("MODE_1", 0, 3, reading=reading, writing=writing, device=device, reset=reset,
                          lock="L", key="K2")
            wanted = ("MODE_1", 0, 3, reading, writing, device, reset, "L", "K2", None, None)
            self.assertTrue(same(parts_of(field), wanted))
            self.assertEqual(field.kind, Kind(reading, writing, device))

    def test_arguments_by_name(self):
        more = {"held": None, "commit": "C", "key": "K", "lock": "A", "reset": 3, "device": "still",
                "writing": "store", "reading": "keep", "size": 2, "low": 30, "name": "A"}
        self.assertEqual({name: getattr(Field(**more), name) for name in PARAMETERS}, more)
        self.assertRaises(TypeError, Field, "A", 0, 1, "keep")

    def test_names(self):
        for name in NAMES:
            self.assertEqual(Field(name, 0, 1).name, name)
            for partner in PARTNERS[:2]:
                self.assertEqual(getattr(Field("A", 0, 1, **{partner: name}), partner), name)

    def test_places(self):
        for low, size in product(range(-1, 34), range(-1, 34)):
            if 0 <= low <= 31 and 1 <= size <= 16 and low + size <= 32:
                self.assertTrue(same((Field("A", low, size).low, Field("A", low, size).size), (low, size)))
            else:
                refused(self, InvalidField, {"name": "A", "reason": "place"}, Field, "A", low, size)

    def test_resets(self):
        for size in range(1, 17):
            for reset in (0, 1, 2 ** size - 1):
                self.assertTrue(same(Field("A", 0, size, reset=reset).reset, reset))
            for reset in no_integers(0, 2 ** size - 1):
                refused(self, InvalidField, {"name": "A", "reason": "reset"}, Field, "A", 0, size, reset=reset)

    def test_the_reset_of_a_raised_field(self):
        for device, reset in product(reckoned.DEVICES, range(4)):
            if device == "raise" and reset != 0:
                refused(self, InvalidField, {"name": "R", "reason": "reset"}, Field, "R", 0, 2, device=device,
                        reset=reset)
            else:
                self.assertEqual(Field("R", 0, 2, device=device, reset=reset).reset, reset)


class HeldAndCommit(unittest.TestCase):
    def test_the_kind_of_a_held_field(self):
        for reading, writing, device in reckoned.ALL_WORDS:
            words = {"reading": reading, "writing": writing, "device": device}
            if reading == "keep" and writing == "none" and device in ("still", "drift"):
                self.assertEqual(Field("H", 0, 4, **words, held="L", reset=9).held, "L")
            else:
                refused(self, InvalidField, {"name": "H", "reason": "held"}, Field, "H", 0, 4, **words, held="L")

    def test_what_a_held_field_may_not_have(self):
        for named in product((None, "L"), repeat=3):
            more = dict(zip(("lock", "key", "commit"), named))
            if named == (None, None, None):
                Field("H", 0, 4, writing="none", held="L", **more)
            else:
                refused(self, InvalidField, {"name": "H", "reason": "held"}, Field, "H", 0, 4, writing="none",
                        held="L", **more)

    def test_the_kind_of_a_field_with_a_commit(self):
        for reading, writing, device in reckoned.ALL_WORDS:
            words = {"reading": reading, "writing": writing, "device": device}
            if (reading, writing, device) == ("keep", "store", "still"):
                field = Field("F", 0, 4, **words, commit="C", lock="F", key="K", reset=9)
                self.assertEqual((field.commit, field.lock, field.key), ("C", "F", "K"))
            else:
                refused(self, InvalidField, {"name": "F", "reason": "commit"}, Field, "F", 0, 4, **words, commit="C")

    def test_a_held_field_with_a_commit(self):
        for writing in reckoned.WRITINGS:
            refused(self, InvalidField, {"name": "F", "reason": "held"}, Field, "F", 0, 1, writing=writing,
                    commit="C", held="H")


class FieldRefusals(unittest.TestCase):
    def test_no_names(self):
        for value in NO_NAMES:
            refused(self, InvalidField, {"name": value, "reason": "name"}, Field, value, 0, 1)

    def test_no_places(self):
        for value in no_integers(0, 31):
            refused(self, InvalidField, {"name": "A", "reason": "place"}, Field, "A", value, 1)
        for value in no_integers(1, 16):
            refused(self, InvalidField, {"name": "A", "reason": "place"}, Field, "A", 0, value)

    def test_no_kinds(self):
        words = {"reading": reckoned.READINGS, "writing": reckoned.WRITINGS, "device": reckoned.DEVICES}
        for parameter, right in words.items():
            for value in (*ODD_VALUES, 0, 1, "Keep", "clear", right, right[0] + " ", *sum(words.values(), ())):
                if value not in right:
                    refused(self, InvalidKind, {"value": value}, Field, "A", 0, 1, **{parameter: value})

    def test_no_partners(self):
        for parameter, value in product(PARTNERS, NO_NAMES):
            if value is not None:
                refused(self, InvalidField, {"name": "A", "reason": parameter}, Field, "A", 0, 1,
                        **{parameter: value})

    def test_the_first_of_two_is_told(self):
        wrongs = [
            ("name", {"name": "a"}), ("place", {"low": 32}), ("reading", {"reading": "Keep"}),
            ("writing", {"writing": None}), ("device", {"device": ["still"]}), ("reset", {"reset": 2}),
            ("lock", {"lock": "l"}), ("key", {"key": 0}), ("commit", {"commit": ("C",)}), ("held", {"held": False}),
            ("held", {"held": "H"}),
        ]
        good = {"name": "A", "low": 0, "size": 1}
        for first, second in product(range(len(wrongs)), repeat=2):
            if first > second or (first == 9 and second == 10):
                continue
            reason, values = wrongs[first]
            more = {**good, **wrongs[second][1], **values}
            if reason in ("reading", "writing", "device"):
                refused(self, InvalidKind, {"value": values[reason]}, Field, **more)
            else:
                refused(self, InvalidField, {"name": more["name"], "reason": reason}, Field, **more)
        refused(self, InvalidField, {"name": None, "reason": "name"}, Field, *[None] * 3,
                **{name: 0 for name in PARAMETERS[3:]})
        refused(self, InvalidField, {"name": "A", "reason": "commit"}, Field, "A", 0, 1, commit=1, held="H")

    def test_a_wrong_partner_is_told_ahead_of_a_wrong_kind(self):
        refused(self, InvalidField, {"name": "A", "reason": "held"}, Field, "A", 0, 1, commit="C", held="h",
                writing="set1")
        refused(self, InvalidField, {"name": "A", "reason": "key"}, Field, "A", 0, 1, key="k", held="H")


class Registers(unittest.TestCase):
    def test_attributes(self):
        one, other = Field("A", 0, 1), Field("B", 0, 9)
        for fields in ((), (one,), (other, one), (one, one), (one,) * 20):
            port = Register("S", *fields)
            self.assertTrue(same((port.name, port.fields, port.whole), ("S", fields, False)))
            for whole in (False, True):
                for port in (Register("S", *fields, whole=whole), Register.of("S", fields, whole),
                             Register.of("S", list(fields), whole=whole),
                             Register.of(whole=whole, fields=fields, name="S")):
                    self.assertTrue(same((port.name, port.fields, port.whole), ("S", fields, whole)))
                    self.assertIs(port.__class__, Register)
        self.assertIs(Register.of("S", ()).whole, False)
        self.assertEqual(Register(name="S").fields, ())

    def test_key_registers(self):
        for constants in ((0,), (1, 1), (2 ** 32 - 1, 0, 7), (5, 5, 5)):
            for port in (KeyRegister("K", *constants), KeyRegister.of("K", constants),
                         KeyRegister.of(constants=list(constants), name="K")):
                self.assertTrue(same((port.name, port.constants, port.fields, port.whole),
                                     ("K", constants, (), False)))
                self.assertIs(port.__class__, KeyRegister)
        self.assertTrue(issubclass(KeyRegister, Register))

    def test_names(self):
        for name in NAMES:
            self.assertEqual([Register(name).name, KeyRegister(name, 1).name], [name, name])
        for value in NO_NAMES:
            attributes = {"name": value, "reason": "name"}
            refused(self, InvalidMap, attributes, Register, value)
            refused(self, InvalidMap, attributes, Register.of, value, [])
            refused(self, InvalidMap, attributes, KeyRegister, value, 1)
            refused(self, InvalidMap, attributes, KeyRegister.of, value, (1,))

    def test_no_fields(self):
        field = Field("A", 0, 1)
        attributes = {"name": "S", "reason": "fields"}
        for value in (*ODD_VALUES, 0, "A", Kind("keep", "store", "still"), Register("S"), [field], (field,)):
            for fields in ((value,), (field, value), (value, field, field)):
                refused(self, InvalidMap, attributes, Register, "S", *fields)
                refused(self, InvalidMap, attributes, Register.of, "S", list(fields))
            if not isinstance(value, (list, tuple)):
                refused(self, InvalidMap, attributes, Register.of, "S", value)

    def test_not_whole(self):
        for value in (*ODD_VALUES, 0, 1, "True", [True], (False,)):
            if not isinstance(value, bool):
                attributes = {"name": "S", "reason": "whole"}
                refused(self, InvalidMap, attributes, Register, "S", Field("A", 0, 1), whole=value)
                refused(self, InvalidMap, attributes, Register.of, "S", [], value)

    def test_no_constants(self):
        attributes = {"name": "K", "reason": "constants"}
        for value in no_integers(0, 2 ** 32 - 1):
            for constants in ((value,), (1, value), (value, 2, 3)):
                refused(self, InvalidMap, attributes, KeyRegister, "K", *constants)
                refused(self, InvalidMap, attributes, KeyRegister.of, "K", list(constants))
            if not isinstance(value, (list, tuple)):
                refused(self, InvalidMap, attributes, KeyRegister.of, "K", value)
        for constants in ((), (1, 2, 3, 4), (0,) * 5):
            refused(self, InvalidMap, attributes, KeyRegister, "K", *constants)
            refused(self, InvalidMap, attributes, KeyRegister.of, "K", constants)

    def test_the_first_of_two_is_told(self):
        refused(self, InvalidMap, {"name": "s", "reason": "name"}, Register, "s", 1, whole=2)
        refused(self, InvalidMap, {"name": "s", "reason": "name"}, Register.of, "s", None, 2)
        refused(self, InvalidMap, {"name": "S", "reason": "fields"}, Register, "S", 1, whole=2)
        refused(self, InvalidMap, {"name": "S", "reason": "fields"}, Register.of, "S", None, 2)
        refused(self, InvalidMap, {"name": (1,), "reason": "name"}, KeyRegister, (1,))
        refused(self, InvalidMap, {"name": (1,), "reason": "name"}, KeyRegister.of, (1,), None)

    def test_a_list_that_changes_later(self):
        field = Field("A", 0, 1)
        fields, constants = [field], [1, 2]
        port, key = Register.of("S", fields), KeyRegister.of("K", constants)
        fields.append(5)
        constants[0] = None
        self.assertTrue(same((port.fields, key.constants), ((field,), (1, 2))))


class Equality(unittest.TestCase):
    def test_equal_and_unequal(self):
        def made():
            plain = {"reading": "keep", "writing": "none"}
            return [
                Field("A", 0, 1), Field("B", 0, 1), Field("A", 1, 1), Field("A", 0, 2), Field("A", 0, 1, reset=1),
                Field("A", 0, 1, reading="take"), Field("A", 0, 1, writing="once"), Field("A", 0, 1, device="end"),
                Field("A", 0, 1, lock="A"), Field("A", 0, 1, key="A"), Field("A", 0, 1, commit="A"),
                Field("A", 0, 1, **plain), Field("A", 0, 1, **plain, held="A"), Field("A", 0, 1, **plain, held="B"),
                Register("A"), Register("B"), Register("A", whole=True), Register("A", Field("A", 0, 1)),
                Register("A", Field("A", 0, 1), Field("B", 1, 1)), Register("A", Field("B", 1, 1), Field("A", 0, 1)),
                Register("A", Field("A", 0, 1, reset=1)), KeyRegister("A", 1), KeyRegister("B", 1),
                KeyRegister("A", 1, 2), KeyRegister("A", 2, 1), KeyRegister("A", 1, 1),
            ]

        for (at, one), (number, other) in product(enumerate(made()), enumerate(made())):
            self.assertIs(one == other, at == number, (at, number))
            self.assertIs(one != other, at != number, (at, number))
        for one, value in product(made(), (*ODD_VALUES, "A", ("A", 0, 1), 1, Kind("keep", "store", "still"))):
            self.assertIs(one == value, False)
            self.assertIs(value == one, False)
            self.assertIs(one != value, True)


if __name__ == "__main__":
    unittest.main()
