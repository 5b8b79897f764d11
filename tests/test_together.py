"""Words whose bits are Bits, changed by blends, told by effects, laid out by maps."""

import random
import unittest

from keptbits.bits import (Bit, ClearedBit, DeafBit, DriftingBit, EndedBit, EventBit, FlippedBit, GaugeBit, KindBit,
                           OnceBit, RaisedBit, SealedBit, SetBit, StartBit, TakenBit, TakenEventBit, ZeroClearedBit)
from keptbits.blends import Blend
from keptbits.effects import Effect, shortest
from keptbits.fields import Field, Register
from keptbits.kinds import Kind
from keptbits.maps import DeviceMap
from samples import same

CLASSES = (Bit, ClearedBit, DeafBit, DriftingBit, EndedBit, EventBit, FlippedBit, GaugeBit, OnceBit, RaisedBit,
           SealedBit, SetBit, StartBit, TakenBit, TakenEventBit, ZeroClearedBit)


class Word:
    """A row of bits that is read and written as one word; it keeps the letters of each bit."""

    def __init__(self, bits):
        self.bits = bits
        self.starts = [bit.state for bit in bits]
        self.letters = [""] * len(bits)

    def read(self):
        self.letters = [letters + "r" for letters in self.letters]
        return sum(bit.read() << j for j, bit in enumerate(self.bits))

    def write(self, value):
        for j, bit in enumerate(self.bits):
            bit.write(value >> j & 1)
        self.letters = [letters + str(value >> j & 1) for j, letters in enumerate(self.letters)]

    def now(self):
        return sum(bit.now << j for j, bit in enumerate(self.bits))


def kind_of(bit):
    return bit.kind if isinstance(bit, KindBit) else Kind(*bit.WORDS)


def drawn_bit(draw):
    made = draw.choice((*CLASSES, None))
    if made is not None:
        return made(draw.randrange(2))
    kind = Kind(draw.choice(Kind.READINGS), draw.choice(Kind.WRITINGS), draw.choice(Kind.DEVICES))
    return KindBit(kind, draw.randrange(2))


def drawn_blend(draw, width):
    return Blend(width, draw.randint(-width, width), draw.getrandbits(width), draw.getrandbits(width))


def ends_of(word, quiet):
    """For each bit of a word, its state and the ends that the effect of its letters tells."""
    return [(bit.state, Effect.of(kind_of(bit), letters, quiet=quiet)(start))
            for bit, start, letters in zip(word.bits, word.starts, word.letters)]


class Together(unittest.TestCase):
    def test_without_deeds(self):
        draw = random.Random(9)
        for width in (8, 16, 32) * 20:
            word = Word([drawn_bit(draw) for _ in range(width)])
            for _ in range(6):
                before = word.now()
                read = word.read()
                self.assertTrue(same(read, before))
                word.write(drawn_blend(draw, width)(read))
                for state, ends in ends_of(word, quiet=True):
                    self.assertTrue(same(ends, (state,)))
                for state, ends in ends_of(word, quiet=False):
                    self.assertIn(state, ends)

    def test_with_deeds(self):
        draw = random.Random(10)
        for width in (8, 16, 32) * 20:
            word = Word([drawn_bit(draw) for _ in range(width)])
            for _ in range(4):
                for work in (word.read, lambda: word.write(drawn_blend(draw, width)(word.now()))):
                    work()
                    for bit in draw.sample(word.bits, width // 2):
                        ends = kind_of(bit).deeds(bit.state)
                        self.assertIs(bit.deed(), ends != ())
                        self.assertTrue(ends == () or ends == (bit.state,))
                for state, ends in ends_of(word, quiet=False):
                    self.assertIn(state, ends)

    def test_letters_with_the_same_effect(self):
        draw = random.Random(11)
        for _ in range(300):
            kind = kind_of(drawn_bit(draw))
            letters = "".join(draw.choice("01r") for _ in range(draw.randrange(12)))
            for value in (0, 1):
                ends = []
                for row in (letters, shortest(kind, letters, quiet=True)):
                    bit = KindBit(kind, value)
                    for letter in row:
                        bit.read() if letter == "r" else bit.write(int(letter))
                    ends.append(bit.state)
                self.assertEqual(ends[0], ends[1])

    def test_a_write_back_that_clears_events(self):
        def after(blend):
            word = Word([EventBit(1), EventBit(0), Bit(1), StartBit(0)] + [Bit() for _ in range(4)])
            word.write(blend(word.read()))
            return word.now()

        self.assertEqual(after(Blend(8)), 4)
        self.assertEqual(after(Blend(8) | 8), 12)
        self.assertEqual(after(Blend(8) & 252), 5)
        self.assertEqual(after((Blend(8) & 252) ^ 4), 1)
        self.assertEqual(after(Blend.constant(8, 3)), 0)

    def test_bits_of_a_map(self):
        event, plain = {"writing": "clear1", "device": "raise"}, {"reset": 5}
        layout = DeviceMap(16, Register("R", Field("STAT", 6, 4, **event), Field("MODE", 0, 3, **plain), whole=True))
        bits = {}
        for name, i in layout.bits:
            field = layout[name]
            bits[name, i] = KindBit(field.kind, field.reset >> i & 1)
        for name, i in layout.bits:
            bits[name, i].deed()
        for j, name, i in layout.touched("R", "b0"):
            bits[name, i].write(2 ** 6 + 3 >> j & 1)
        for name, i in layout.beside("R", "b0"):
            bits[name, i].write(0)
        self.assertEqual([bits[at].now for at in layout.bits], [0, 1, 1, 1, 1, 1, 0])


if __name__ == "__main__":
    unittest.main()
