import unittest
from itertools import product

from keptbits.errors import InvalidKind
from keptbits.kinds import Kind
from samples import ODD_VALUES, refused, run_example, same

READINGS = ("keep", "take")
WRITINGS = ("store", "clear1", "clear0", "set1", "flip1", "once", "none")
DEVICES = ("still", "raise", "end", "drift")
EXAMPLE = """
>>> from keptbits.kinds import Kind
>>> event, seal = Kind("keep", "clear1", "raise"), Kind("take", "once", "still")
>>> [event.after_write(1, 1), event.after_write(1, 0), event.deeds(0), event.deeds(1)]
[0, 1, (1,), ()]
>>> [seal.after_write(0, 1), seal.after_write(3, 0), seal.unguarded(3, 0), seal.after_read(3)]
[3, 3, 2, 2]
"""
# The table of the document, row by row: the values behind a write of 0 and of 1.
TABLE = {
    "store": ("0", "1"),
    "clear1": ("the same", "0"),
    "clear0": ("0", "the same"),
    "set1": ("the same", "1"),
    "flip1": ("the same", "inverted"),
    "none": ("the same", "the same"),
}


def all_kinds():
    return [Kind(*words) for words in product(READINGS, WRITINGS, DEVICES)]


def told(cell, value):
    return {"0": 0, "1": 1, "the same": value, "inverted": 1 - value}[cell]


def no_words(words):
    """Values that are no word of a list: words of the other lists, and odd values."""
    others = [word for word in READINGS + WRITINGS + DEVICES if word not in words]
    others += [word.upper() for word in words] + [word + " " for word in words] + [[words[0]], (words[0],), words]
    return [*others, "", "keepstore", 0, 1, *ODD_VALUES[:8], *ODD_VALUES[-9:]]


class Kinds(unittest.TestCase):
    def test_example(self):
        run_example(self, EXAMPLE)

    def test_the_words(self):
        self.assertTrue(same(Kind.READINGS, READINGS))
        self.assertTrue(same(Kind.WRITINGS, WRITINGS))
        self.assertTrue(same(Kind.DEVICES, DEVICES))

    def test_attributes_and_text(self):
        for words in product(READINGS, WRITINGS, DEVICES):
            kind = Kind(*words)
            self.assertTrue(same((kind.reading, kind.writing, kind.device), words))
            self.assertTrue(same(str(kind), " ".join(words)))
            named = Kind(device=words[2], writing=words[1], reading=words[0])
            self.assertEqual(str(named), str(kind))

    def test_states(self):
        for kind in all_kinds():
            states = (0, 1, 2, 3) if kind.writing == "once" else (0, 1)
            self.assertTrue(same(kind.states, states))

    def test_reads(self):
        for kind in all_kinds():
            for state in kind.states:
                spent = 2 if state in (2, 3) else 0
                after = state if kind.reading == "keep" else spent
                self.assertTrue(same(kind.after_read(state), after), (str(kind), state))

    def test_writes_of_bits_that_cannot_be_spent(self):
        for kind in all_kinds():
            if kind.writing == "once":
                continue
            for state, bit in product((0, 1), (0, 1)):
                after = told(TABLE[kind.writing][bit], state)
                self.assertTrue(same(kind.after_write(state, bit), after), (str(kind), state, bit))
                self.assertTrue(same(kind.unguarded(state=state, bit=bit), after), (str(kind), state, bit))

    def test_writes_of_bits_that_can_be_spent(self):
        for kind in all_kinds():
            if kind.writing != "once":
                continue
            for state, bit in product((0, 1, 2, 3), (0, 1)):
                after = state if state in (2, 3) else bit + 2
                self.assertTrue(same(kind.after_write(state=state, bit=bit), after), (str(kind), state, bit))
                self.assertTrue(same(kind.unguarded(state, bit), bit + 2), (str(kind), state, bit))

    def test_deeds(self):
        for kind in all_kinds():
            for state in kind.states:
                value, spent = state % 2, state - state % 2
                ends = {
                    "still": (),
                    "raise": (1 + spent,) if value == 0 else (),
                    "end": (0 + spent,) if value == 1 else (),
                    "drift": (1 - value + spent,),
                }[kind.device]
                self.assertTrue(same(kind.deeds(state), ends), (str(kind), state))

    def test_a_wrong_word_alone(self):
        for value in no_words(READINGS):
            refused(self, InvalidKind, {"value": value}, Kind, value, "store", "still")
        for value in no_words(WRITINGS):
            refused(self, InvalidKind, {"value": value}, Kind, "keep", value, "still")
        for value in no_words(DEVICES):
            refused(self, InvalidKind, {"value": value}, Kind, "keep", "store", value)

    def test_the_first_wrong_word_is_told(self):
        wrong = (None, ["x"], "raised")
        good = ("take", "once", "end")
        for goods in product((True, False), repeat=3):
            words = [good[k] if is_good else wrong[k] for k, is_good in enumerate(goods)]
            if all(goods):
                Kind(*words)
            else:
                refused(self, InvalidKind, {"value": wrong[goods.index(False)]}, Kind, *words)

    def test_equal_and_unequal(self):
        kinds = all_kinds()
        for at, kind in enumerate(kinds):
            for number, other in enumerate(all_kinds()):
                self.assertIs(kind == other, at == number)
                self.assertIs(kind != other, at != number)
            words = (kind.reading, kind.writing, kind.device)
            for value in (str(kind), words, list(words), dict(enumerate(words)), *ODD_VALUES):
                self.assertIs(kind == value, False)
                self.assertIs(value == kind, False)
                self.assertIs(kind != value, True)


if __name__ == "__main__":
    unittest.main()
