import unittest
from itertools import product

import reckoned
from keptbits import bits
from keptbits.bits import (Bit, ClearedBit, DeafBit, DriftingBit, EndedBit, EventBit, FlippedBit, GaugeBit, KindBit,
                           OnceBit, RaisedBit, SealedBit, SetBit, StartBit, TakenBit, TakenEventBit, ZeroClearedBit)
from keptbits.errors import InvalidWord
from keptbits.kinds import Kind
from samples import ODD_VALUES, refused, same

WORDS = {
    Bit: ("keep", "store", "still"),
    TakenBit: ("take", "store", "still"),
    ClearedBit: ("keep", "clear1", "still"),
    ZeroClearedBit: ("keep", "clear0", "still"),
    SetBit: ("keep", "set1", "still"),
    FlippedBit: ("keep", "flip1", "still"),
    OnceBit: ("keep", "once", "still"),
    DeafBit: ("keep", "none", "still"),
    RaisedBit: ("keep", "store", "raise"),
    EndedBit: ("keep", "store", "end"),
    DriftingBit: ("keep", "store", "drift"),
    EventBit: ("keep", "clear1", "raise"),
    TakenEventBit: ("take", "none", "raise"),
    StartBit: ("keep", "set1", "end"),
    GaugeBit: ("keep", "none", "drift"),
    SealedBit: ("take", "once", "still"),
}
ABOVE = {
    DriftingBit: (RaisedBit, EndedBit),
    EventBit: (ClearedBit, RaisedBit),
    TakenEventBit: (TakenBit, DeafBit, RaisedBit),
    StartBit: (SetBit, EndedBit),
    GaugeBit: (DeafBit, DriftingBit, RaisedBit, EndedBit),
    SealedBit: (TakenBit, OnceBit),
}
NO_BITS = (*ODD_VALUES, 2, 3, -1, "0", "1", (0,), [1], {0: 1}, 0 == 0)


def makers():
    """Each way to make a bit, with the words that it follows."""
    ways = list(WORDS.items())
    return ways + [(lambda value=0, kind=Kind(*words): KindBit(kind, value), words) for words in reckoned.ALL_WORDS]


def done(bit, action):
    """What an action returns: a read, a write of 0 or 1, or a deed."""
    if action == "read":
        return bit.read()
    if action == "deed":
        return bit.deed()
    return bit.write(action)


def told(words, state, action):
    """What an action returns, and the state behind it, by the tables."""
    if action == "read":
        return state & 1, reckoned.after_read(words, state)
    if action == "deed":
        behind = reckoned.after_deed(words, state)
        return behind is not None, state if behind is None else behind
    return None, reckoned.after_write(words, state, action)


class Actions(unittest.TestCase):
    def test_all_short_rows_of_actions(self):
        for make, words in makers():
            for value, actions in product((0, 1), product(("read", "deed", 0, 1), repeat=4)):
                bit, state = make(value), value
                for action in actions:
                    answer, state = told(words, state, action)
                    self.assertTrue(same(done(bit, action), answer), (words, value, actions))
                    self.assertTrue(same((bit.now, bit.state), (state & 1, state)), (words, value, actions))

    def test_the_first_value(self):
        for make, words in makers():
            self.assertTrue(same((make().now, make().state), (0, 0)))
            for value in (0, 1):
                for bit in (make(value), make(value=value)):
                    self.assertTrue(same((bit.now, bit.state), (value, value)))

    def test_properties_do_nothing(self):
        for make, words in makers():
            bit = make(1)
            self.assertEqual([bit.now, bit.state, bit.now, bit.state, bit.read()], [1, 1, 1, 1, 1])

    def test_a_bit_by_name(self):
        bit = KindBit(value=1, kind=Kind("take", "flip1", "end"))
        bit.write(bit=1)
        self.assertEqual(bit.state, 0)
        for make, words in makers():
            bit = make(0)
            bit.write(bit=1)
            self.assertEqual(bit.state, reckoned.after_write(words, 0, 1))

    def test_each_bit_has_its_own_value(self):
        for make, words in makers():
            one, other = make(0), make(0)
            one.write(1)
            one.deed()
            self.assertEqual(other.state, 0)


class Classes(unittest.TestCase):
    def test_words(self):
        for kind_of_bit, words in WORDS.items():
            self.assertTrue(same(kind_of_bit.WORDS, words))
            self.assertTrue(same(kind_of_bit(1).WORDS, words))

    def test_which_class_is_below_which(self):
        for low, high in product((*WORDS, KindBit), repeat=2):
            wanted = low is high or high is Bit or high in ABOVE.get(low, ())
            self.assertIs(issubclass(low, high), wanted, (low, high))

    def test_first_bases_in_their_order(self):
        for kind_of_bit, above in ABOVE.items():
            here = [each for each in kind_of_bit.__mro__ if each in above]
            self.assertEqual(here, list(above))

    def test_the_classes_stand_in_their_file(self):
        for kind_of_bit in (*WORDS, KindBit):
            self.assertIs(getattr(bits, kind_of_bit.__name__), kind_of_bit)
            self.assertEqual(kind_of_bit.__module__, "keptbits.bits")

    def test_kind(self):
        for words in reckoned.ALL_WORDS:
            kind = Kind(*words)
            self.assertIs(KindBit(kind).kind, kind)
            self.assertTrue(same(KindBit(kind).state, 0))


class Refusals(unittest.TestCase):
    def test_no_first_value(self):
        for make, words in makers():
            for value in NO_BITS:
                refused(self, InvalidWord, {"value": value}, make, value)

    def test_no_bit_to_write(self):
        for make, words in makers():
            for start in (0, 1):
                bit = make(start)
                for value in NO_BITS:
                    with self.assertRaises(InvalidWord) as caught:
                        bit.write(value)
                    self.assertTrue(same(caught.exception.value, value))
                self.assertEqual(bit.state, start)

    def test_no_bit_to_write_to_a_spent_bit(self):
        for make in (OnceBit, SealedBit):
            bit = make(0)
            bit.write(1)
            for value in NO_BITS:
                self.assertRaises(InvalidWord, bit.write, value)
            self.assertEqual(bit.state, 3)


if __name__ == "__main__":
    unittest.main()
