import unittest

from keptbits import errors
from samples import ODD_VALUES, same

LISTED = {
    "InvalidWidth": ("value",),
    "InvalidLane": ("value",),
    "InvalidWord": ("value",),
    "InvalidShift": ("value",),
    "InvalidKind": ("value",),
    "InvalidLetters": ("index",),
    "InvalidField": ("name", "reason"),
    "InvalidMap": ("name", "reason"),
    "NoName": ("name",),
    "InvalidStep": ("reason",),
    "InvalidTask": ("name", "reason"),
    "InvalidSystem": ("name", "index", "reason"),
    "NotEnabled": ("move",),
    "NotClosed": ("item",),
    "TooLarge": ("limit",),
    "InvalidText": ("line", "word"),
    "UnknownCommand": (),
    "NoSystem": (),
    "NothingToUndo": ("number",),
    "InvalidMost": ("value",),
    "Exhausted": ("most",),
    "Stopped": ("last",),
    "NoNeutral": ("name", "index"),
    "NoShadow": ("name", "other"),
}


class Errors(unittest.TestCase):
    def test_just_the_listed_classes_stand_there(self):
        defined = {name for name, value in vars(errors).items() if isinstance(value, type)}
        self.assertEqual(defined, {"BitError", *LISTED})
        for name in defined:
            self.assertEqual(getattr(errors, name).__module__, "keptbits.errors")

    def test_bases(self):
        self.assertEqual(errors.BitError.__bases__, (ValueError,))
        for name in LISTED:
            for other in LISTED:
                is_below = issubclass(getattr(errors, name), getattr(errors, other))
                self.assertEqual(is_below, name == other, (name, other))
            self.assertTrue(issubclass(getattr(errors, name), errors.BitError))
            self.assertTrue(issubclass(getattr(errors, name), ValueError))

    def test_arguments_are_attributes(self):
        for name, parameters in LISTED.items():
            for at in range(len(ODD_VALUES)):
                values = [ODD_VALUES[(at + k) % len(ODD_VALUES)] for k in range(len(parameters))]
                made = [getattr(errors, name)(*values),
                        getattr(errors, name)(**dict(zip(parameters, values)))]
                for error in made:
                    self.assertIsInstance(error, errors.BitError)
                    self.assertEqual(list(vars(error)), list(parameters))
                    for parameter, value in zip(parameters, values):
                        self.assertTrue(same(getattr(error, parameter), value))
                    self.assertTrue(str(error))

    def test_the_number_of_arguments(self):
        for name, parameters in LISTED.items():
            with self.assertRaises(TypeError):
                getattr(errors, name)(*[0] * (len(parameters) + 1))
            if parameters:
                with self.assertRaises(TypeError):
                    getattr(errors, name)(*[0] * (len(parameters) - 1))


if __name__ == "__main__":
    unittest.main()
