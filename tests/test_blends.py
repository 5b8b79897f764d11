import operator
import random
import unittest
from itertools import product

from keptbits.blends import Blend, blend_parting
from keptbits.errors import InvalidShift, InvalidWidth, InvalidWord
from samples import ODD_VALUES, refused, run_example, same

WIDTHS = (8, 16, 32)
EXAMPLE = """
>>> from keptbits.blends import Blend, blend_parting
>>> b = ((Blend(8) & 12) << 2) ^ 3
>>> [b, b(255), b(4), list(b.sources()), ~b, b >> 6]
[Blend(8, 2, 48, 3), 51, 19, [(4, 2), (5, 3)], Blend(8, 2, 48, 252), Blend(8, 0, 0, 0)]
>>> [blend_parting(b, b | 16), blend_parting(Blend(8), Blend(8) & 251), b.then(Blend(8) >> 4)]
[0, 4, Blend(8, -2, 3, 0)]
"""


def reckoned(width, shift, keep, flip, value):
    """The result bit by bit, by the sentence of the document about any three numbers."""
    result = 0
    for j in range(width):
        bit = (flip // 2 ** j) % 2
        if (keep // 2 ** j) % 2 == 1:
            source = (value // 2 ** (j - shift)) % 2 if 0 <= j - shift < width else 0
            bit = (bit + source) % 2
        result += bit * 2 ** j
    return result


def full(width):
    return 2 ** width - 1


def drawn_word(draw, width):
    """A word that often has few ones, few zeros, or is the least or the greatest."""
    word = draw.getrandbits(width)
    return draw.choice((0, full(width), word, word, word & draw.getrandbits(width) & draw.getrandbits(width),
                        1 << draw.randrange(width), full(width) ^ 1 << draw.randrange(width)))


def drawn_numbers(draw, width):
    return draw.randint(-width, width), drawn_word(draw, width), drawn_word(draw, width)


def drawn_blends(seed, width, number):
    draw = random.Random(seed)
    return [Blend(width, *drawn_numbers(draw, width)) for _ in range(number)]


def words_of(width, number=40):
    """All words of the width 8, otherwise words with one 1, their neighbours and drawn ones."""
    if width == 8:
        return list(range(256))
    draw = random.Random(width)
    ones = [1 << j for j in range(width)]
    return [0, full(width), *ones, *[full(width) ^ one for one in ones], *[one - 1 for one in ones],
            *[drawn_word(draw, width) for _ in range(number)]]


def results(blend):
    return [blend(value) for value in words_of(blend.width)]


def no_words(width):
    return [*ODD_VALUES, full(width) + 1, -1, -full(width), [0], (0,), {0: 0}, {}, "0", True, False, None]


def no_shifts(least, most):
    return [value for value in (*ODD_VALUES, least - 1, most + 1, [least], (most,), str(most), 0 == 0, {0: 0})
            if isinstance(value, bool) or not isinstance(value, int) or not least <= value <= most]


class Results(unittest.TestCase):
    def test_example(self):
        run_example(self, EXAMPLE)

    def test_results_of_width_8(self):
        draw = random.Random(1)
        keeps = [0, 1, 128, 255, *[draw.getrandbits(8) for _ in range(4)]]
        for shift, keep in product(range(-8, 9), keeps):
            flip = draw.choice((0, 255, draw.getrandbits(8)))
            blend = Blend(8, shift, keep, flip)
            for value in range(256):
                self.assertTrue(same(blend(value), reckoned(8, shift, keep, flip, value)))

    def test_results_of_the_other_widths(self):
        draw = random.Random(2)
        for width in (16, 32):
            numbers = [drawn_numbers(draw, width) for _ in range(60)]
            numbers += [(shift, full(width), 0) for shift in range(-width, width + 1)]
            for shift, keep, flip in numbers:
                blend = Blend(width, shift, keep, flip)
                for value in words_of(width, 10):
                    self.assertTrue(same(blend(value), reckoned(width, shift, keep, flip, value)))

    def test_defaults_and_names(self):
        for width in WIDTHS:
            self.assertEqual(repr(Blend(width)), f"Blend({width}, 0, {full(width)}, 0)")
            self.assertEqual(repr(Blend(width, 3)), f"Blend({width}, 3, {full(width) - 7}, 0)")
            self.assertEqual(repr(Blend(width, -3, None, 5)), f"Blend({width}, -3, {full(width) // 8}, 5)")
            self.assertEqual(repr(Blend(flip=2, keep=4, shift=1, width=width)), f"Blend({width}, 1, 4, 2)")
            self.assertEqual([Blend(width)(value=value) for value in words_of(width)], words_of(width))

    def test_constants(self):
        for width in WIDTHS:
            for value in words_of(width):
                blend = Blend.constant(width, value)
                self.assertEqual(repr(blend), f"Blend({width}, 0, 0, {value})")
                self.assertIs(blend.is_constant, True)
                self.assertEqual({blend(word) for word in words_of(width)[:20]}, {value})
            self.assertEqual(Blend.constant(value=1, width=width), Blend(width, 0, 0, 1))

    def test_is_constant(self):
        for width in WIDTHS:
            for blend in drawn_blends(3, width, 300):
                self.assertIs(blend.is_constant, len(set(results(blend))) == 1, blend)


class NormalForm(unittest.TestCase):
    def test_attributes(self):
        for shift, keep in product(range(-8, 9), range(256)):
            kept = sum(2 ** j for j in range(8) if keep >> j & 1 and 0 <= j - shift < 8)
            blend = Blend(8, shift, keep, keep ^ 85)
            numbers = (blend.width, blend.shift, blend.keep, blend.flip)
            self.assertTrue(same(numbers, (8, shift if kept else 0, kept, keep ^ 85)))

    def test_attributes_of_the_other_widths(self):
        draw = random.Random(4)
        for width in (16, 32):
            for _ in range(500):
                shift, keep, flip = drawn_numbers(draw, width)
                kept = sum(2 ** j for j in range(width) if keep >> j & 1 and 0 <= j - shift < width)
                blend = Blend(width, shift, keep, flip)
                numbers = (blend.width, blend.shift, blend.keep, blend.flip)
                self.assertTrue(same(numbers, (width, shift if kept else 0, kept, flip)))

    def test_repr_tells_the_attributes(self):
        for width in WIDTHS:
            for blend in drawn_blends(5, width, 100):
                text = f"Blend({blend.width}, {blend.shift}, {blend.keep}, {blend.flip})"
                self.assertEqual([repr(blend), str(blend)], [text, text])


class Operations(unittest.TestCase):
    def check(self, blend, made, work):
        """The blend that was made does the work on each result, in normal form."""
        self.assertIs(made.__class__, Blend)
        width = blend.width
        self.assertEqual(repr(made), repr(Blend(width, made.shift, made.keep, made.flip)))
        for value in words_of(width, 5):
            self.assertTrue(same(made(value), work(blend(value)) & full(width)), (blend, made, value))

    def test_words_on_either_side(self):
        draw = random.Random(6)
        for width in WIDTHS:
            for blend in drawn_blends(7, width, 60):
                before = repr(blend)
                for m in (0, 1, full(width), drawn_word(draw, width), draw.getrandbits(width)):
                    for sign in (operator.and_, operator.or_, operator.xor):
                        self.check(blend, sign(blend, m), lambda result: sign(result, m))
                        self.check(blend, sign(m, blend), lambda result: sign(m, result))
                self.assertEqual(repr(blend), before)

    def test_inverted(self):
        for width in WIDTHS:
            for blend in drawn_blends(8, width, 60):
                self.check(blend, ~blend, lambda result: ~result)
                self.assertEqual(~~blend, blend)

    def test_shifted(self):
        for width in WIDTHS:
            for blend in drawn_blends(9, width, 20):
                before = repr(blend)
                for n in range(width + 1):
                    self.check(blend, blend << n, lambda result: result << n)
                    self.check(blend, blend >> n, lambda result: result >> n)
                self.assertEqual(repr(blend), before)

    def test_in_place_forms_leave_the_other_names(self):
        signs = ((operator.iand, operator.and_), (operator.ior, operator.or_), (operator.ixor, operator.xor),
                 (operator.ilshift, operator.lshift), (operator.irshift, operator.rshift))
        for blend in drawn_blends(10, 16, 30):
            for in_place, plain in signs:
                other = blend
                before = repr(blend)
                blend_after = in_place(other, 5)
                self.assertEqual(repr(blend), before)
                self.assertEqual(repr(blend_after), repr(plain(blend, 5)))
        one = two = Blend(8)
        two &= 12
        two <<= 2
        two ^= 3
        two |= 64
        two >>= 1
        self.assertEqual([one, two], [Blend(8), Blend(8, 1, 24, 33)])


class Then(unittest.TestCase):
    def test_first_one_then_another(self):
        draw = random.Random(11)
        for width in WIDTHS:
            blends = drawn_blends(12, width, 40)
            ends = [Blend(width, shift) for shift in (-width, 1 - width, -1, 0, 1, width - 1, width)]
            pairs = list(product(ends, ends)) + [(draw.choice(blends), draw.choice(blends)) for _ in range(150)]
            pairs += list(product(ends, blends[:10])) + list(product(blends[:10], ends))
            for b, c in pairs:
                before = repr((b, c))
                both = b.then(c)
                self.assertEqual([both(value) for value in words_of(width, 5)],
                                 [c(b(value)) for value in words_of(width, 5)])
                self.assertEqual(repr(both), repr(Blend(width, both.shift, both.keep, both.flip)))
                self.assertEqual(repr((b, c)), before)

    def test_brackets_play_no_part(self):
        draw = random.Random(13)
        for width in WIDTHS:
            blends = drawn_blends(14, width, 60) + [Blend(width, shift) for shift in range(-width, width + 1)]
            for _ in range(600):
                a, b, c, d = [draw.choice(blends) for _ in range(4)]
                texts = {repr(a.then(b).then(c).then(d)), repr(a.then(b.then(c)).then(d)),
                         repr(a.then(b.then(c).then(d))), repr(a.then(b.then(c.then(d)))),
                         repr(a.then(b).then(c=c.then(d)))}
                self.assertEqual(len(texts), 1)

    def test_other_widths(self):
        for one, other in product(WIDTHS, WIDTHS):
            if one != other:
                refused(self, InvalidWidth, {"value": other}, Blend(one, 1).then, Blend(other, 1))
                refused(self, InvalidWidth, {"value": other}, Blend.constant(one, 1).then, Blend.constant(other, 1))


class Sources(unittest.TestCase):
    def test_sources(self):
        for width in WIDTHS:
            for blend in drawn_blends(15, width, 100):
                pairs = [(j, j - blend.shift) for j in range(width) if blend.keep >> j & 1]
                self.assertTrue(same(list(blend.sources()), pairs))

    def test_the_source_is_what_plays_a_part(self):
        for blend in drawn_blends(16, 16, 60):
            told = []
            for j, i in product(range(16), range(16)):
                if (blend(0) ^ blend(1 << i)) >> j & 1:
                    told.append((j, i))
            self.assertEqual(list(blend.sources()), told)

    def test_each_call_yields_anew(self):
        blend = Blend(8, 1, 6)
        pairs = blend.sources()
        self.assertEqual(next(pairs), (1, 0))
        self.assertEqual(list(blend.sources()), [(1, 0), (2, 1)])
        self.assertEqual(list(pairs), [(2, 1)])
        self.assertEqual(list(Blend.constant(8, 9).sources()), [])


class Equality(unittest.TestCase):
    def test_equal_means_the_same_function(self):
        numbers = product(range(-8, 9), (0, 1, 24, 128, 129, 255), (0, 3))
        told = [(blend, results(blend)) for blend in [Blend(8, *three) for three in numbers]]
        equal = 0
        for (one, words), (other, others) in product(told, told):
            self.assertIs(one == other, words == others, (one, other))
            self.assertIs(one != other, words != others, (one, other))
            equal += words == others
            least = [value for value in range(256) if words[value] != others[value]][:1]
            self.assertTrue(same(blend_parting(one, other), least[0] if least else None), (one, other))
        self.assertGreater(equal, len(told))

    def test_other_widths_are_unequal(self):
        for one, other in product(WIDTHS, WIDTHS):
            self.assertIs(Blend(one, 1, 6, 3) == Blend(other, 1, 6, 3), one == other)
            self.assertIs(Blend.constant(one, 1) == Blend.constant(other, 1), one == other)

    def test_nothing_else_is_equal(self):
        for blend in (Blend(8), Blend.constant(8, 0), Blend(16, 1, 2, 3)):
            numbers = (blend.width, blend.shift, blend.keep, blend.flip)
            for value in (*ODD_VALUES, numbers, list(numbers), repr(blend), blend.flip, blend.keep):
                self.assertIs(blend == value, False)
                self.assertIs(value == blend, False)
                self.assertIs(blend != value, True)

    def test_parting_of_width_16(self):
        draw = random.Random(17)
        blends = drawn_blends(18, 16, 30)
        pairs = [(blend, Blend(16, blend.shift, blend.keep ^ 1 << draw.randrange(16), blend.flip)) for blend in blends]
        pairs += list(zip(blends, blends[1:]))
        for b, c in pairs:
            told = blend_parting(b, c)
            below = range(65536) if told is None else range(told)
            self.assertTrue(all(b(value) == c(value) for value in below))
            self.assertTrue(told is None or b(told) != c(told))

    def test_parting_of_width_32(self):
        for top in range(32):
            one = Blend(32, 0, 2 ** 32 - 2 ** top)
            self.assertTrue(same(blend_parting(b=one, c=Blend.constant(32, 0)), 2 ** top))
            self.assertTrue(same(blend_parting(one, one ^ 2 ** top), 0))
            self.assertIs(blend_parting(one, Blend(32) & 2 ** 32 - 2 ** top), None)
        # both have bits whose sources differ, from bit 20 of the argument on
        self.assertEqual(blend_parting(Blend(32, 4, 2 ** 30), Blend(32, 10, 2 ** 30)), 2 ** 20)
        self.assertEqual(blend_parting(Blend(32, -4, 2 ** 18), Blend(32, -10, 2 ** 18)), 2 ** 22)

    def test_parting_of_other_widths(self):
        for one, other in product(WIDTHS, WIDTHS):
            if one != other:
                refused(self, InvalidWidth, {"value": other}, blend_parting, Blend(one), Blend(other))


class Refusals(unittest.TestCase):
    def test_one_wrong_argument(self):
        for value in (*ODD_VALUES, 0, 1, 7, 9, 24, 64, "8", (8,)):
            refused(self, InvalidWidth, {"value": value}, Blend, value)
            refused(self, InvalidWidth, {"value": value}, Blend.constant, value, 0)
        for width in WIDTHS:
            for value in no_shifts(-width, width):
                refused(self, InvalidShift, {"value": value}, Blend, width, value)
                refused(self, InvalidShift, {"value": value}, Blend, width, shift=value, keep=0)
            for value in no_words(width):
                if value is not None:
                    refused(self, InvalidWord, {"value": value}, Blend, width, 1, value)
                refused(self, InvalidWord, {"value": value}, Blend, width, 1, 1, value)
                refused(self, InvalidWord, {"value": value}, Blend.constant, width, value)
                refused(self, InvalidWord, {"value": value}, Blend(width, 1), value)
                refused(self, InvalidWord, {"value": value}, Blend.constant(width, 1), value)

    def test_the_first_wrong_argument_is_told(self):
        good, wrong = (16, -16, 65535, 0), (17, -17, 65536, -1)
        errors = (InvalidWidth, InvalidShift, InvalidWord, InvalidWord)
        for goods in product((True, False), repeat=4):
            numbers = [good[k] if is_good else wrong[k] for k, is_good in enumerate(goods)]
            if all(goods):
                Blend(*numbers)
            else:
                at = goods.index(False)
                refused(self, errors[at], {"value": wrong[at]}, Blend, *numbers)
        refused(self, InvalidWidth, {"value": None}, Blend.constant, None, None)

    def test_the_limits_depend_on_the_width(self):
        self.assertEqual(Blend(16, 9, 512, 256), Blend(16, 9, 512, 256))
        refused(self, InvalidShift, {"value": 9}, Blend, 8, 9, 512, 256)
        refused(self, InvalidWord, {"value": 512}, Blend, 8, 8, 512, 256)
        refused(self, InvalidWord, {"value": 256}, Blend, 8, 8, 255, 256)
        for width in WIDTHS:
            self.assertEqual(Blend(width, width), Blend.constant(width, 0))
            self.assertEqual(Blend(width, -width), Blend.constant(width, 0))

    def test_operations(self):
        for width in WIDTHS:
            for blend in (Blend(width), Blend.constant(width, 0), Blend(width, 1, 2, 3)):
                before = repr(blend)
                for m in no_words(width):
                    for sign in (operator.and_, operator.or_, operator.xor):
                        refused(self, InvalidWord, {"value": m}, sign, blend, m)
                        refused(self, InvalidWord, {"value": m}, sign, m, blend)
                    for sign in (operator.iand, operator.ior, operator.ixor):
                        refused(self, InvalidWord, {"value": m}, sign, blend, m)
                for n in no_shifts(0, width):
                    for sign in (operator.lshift, operator.rshift, operator.ilshift, operator.irshift):
                        refused(self, InvalidShift, {"value": n}, sign, blend, n)
                self.assertEqual(repr(blend), before)


if __name__ == "__main__":
    unittest.main()
