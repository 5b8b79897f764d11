import random
import unittest
from itertools import islice, product

import reckoned
from keptbits.effects import Effect, all_effects, effect_parting, shortest
from keptbits.errors import InvalidKind, InvalidLetters
from keptbits.kinds import Kind
from samples import ODD_VALUES, refused, run_example, same

EXAMPLE = """
>>> from keptbits.effects import Effect, all_effects, effect_parting, shortest
>>> from keptbits.kinds import Kind
>>> event = Kind("keep", "clear1", "raise")
>>> one, none = Effect.of(event, "1"), Effect.of(event, "")
>>> [one(0), one(1), none(1), Effect.of(event, "1", quiet=True)(1), effect_parting(one, none)]
[(0, 1), (0, 1), (1,), (0,), (1, 0)]
>>> [[letters for letters, effect in all_effects(event)], shortest(event, "0r1r")]
[['', '1'], '1']
"""
# strings in the order of letters, as many as show every effect and some more
SHORT = ["".join(letters) for size in range(5) for letters in product("01r", repeat=size)]
LONG = "".join(random.Random(6).choice("01r") for _ in range(40))


def table(words, letters, quiet):
    """All ends, by state."""
    return tuple(reckoned.ends(words, state, letters, quiet) for state in reckoned.states(words))


def first_letters(words, quiet):
    """For each effect of the short strings its first letters, in the order in which they come."""
    found = {}
    for letters in SHORT:
        found.setdefault(table(words, letters, quiet), letters)
    return found


def some_effects(kind):
    """The effects of short strings, quiet ones too, with their sets of pairs by the tables."""
    words = (kind.reading, kind.writing, kind.device)
    found = []
    for letters, quiet in product(SHORT[:13], (False, True)):
        pairs = {(state, end) for state in reckoned.states(words)
                 for end in reckoned.ends(words, state, letters, quiet)}
        found.append((Effect.of(kind, letters, quiet=quiet), pairs))
    return found


def each_kind():
    return [(words, Kind(*words)) for words in reckoned.ALL_WORDS]


class Ends(unittest.TestCase):
    def test_example(self):
        run_example(self, EXAMPLE)

    def test_ends_and_pairs(self):
        for (words, kind), quiet in product(each_kind(), (False, True)):
            for letters in (*SHORT[:40], LONG, LONG[::-1]):
                effect = Effect.of(kind, letters, quiet=quiet)
                rows = table(words, letters, quiet)
                self.assertTrue(same(tuple(effect(state) for state in kind.states), rows), (words, letters, quiet))
                pairs = [(state, end) for state, row in enumerate(rows) for end in row]
                self.assertTrue(same(list(effect.pairs()), pairs))
                self.assertIs(effect.__class__, Effect)
                self.assertEqual(effect.kind, kind)

    def test_arguments_by_name(self):
        kind = Kind("take", "once", "end")
        effect = Effect.of(letters="1r", kind=kind, quiet=False)
        self.assertTrue(same(effect(state=1), (2,)))
        self.assertEqual(effect, Effect.of(kind, "1r"))
        self.assertEqual(shortest(letters="0r1r", kind=kind, quiet=True), "0r")
        self.assertEqual([letters for letters, _ in all_effects(kind=kind, quiet=True)],
                         ["", "0", "1", "r", "0r", "r1"])
        self.assertIs(effect_parting(b=effect, a=effect), None)
        self.assertIs(effect.within(b=effect), True)

    def test_effects_are_not_quiet_unless_it_is_said(self):
        kind = Kind("keep", "store", "drift")
        self.assertEqual(Effect.of(kind, "0"), Effect.of(kind, "0", quiet=False))
        self.assertEqual([letters for letters, _ in all_effects(kind)], [""])
        self.assertEqual([letters for letters, _ in all_effects(kind, quiet=True)], ["", "0", "1"])
        self.assertEqual([shortest(kind, "10"), shortest(kind, "10", quiet=True)], ["", "0"])

    def test_deeds_ahead_between_and_behind(self):
        self.assertEqual(Effect.of(Kind("keep", "store", "drift"), "")(0), (0, 1))
        # ahead: the event comes before the read that clears it
        self.assertEqual(Effect.of(Kind("take", "once", "end"), "0")(1), (2,))
        self.assertEqual(Effect.of(Kind("keep", "flip1", "raise"), "1")(0), (0, 1))
        # between: the second flip can meet an event behind the first one
        self.assertEqual(Effect.of(Kind("keep", "flip1", "end"), "11")(0), (0, 1))
        # behind: a written 0 can be raised at once
        self.assertEqual(Effect.of(Kind("keep", "store", "raise"), "0")(1), (0, 1))
        self.assertEqual(Effect.of(Kind("keep", "store", "raise"), "0", quiet=True)(1), (0,))


class Operations(unittest.TestCase):
    def test_a_product_is_the_effect_of_both_strings(self):
        for (words, kind), quiet in product(each_kind(), (False, True)):
            for one, other in product(SHORT[:13], repeat=2):
                both = Effect.of(kind, one, quiet=quiet) * Effect.of(kind, other, quiet=quiet)
                self.assertEqual(both, Effect.of(kind, one + other, quiet=quiet))
                self.assertTrue(same(tuple(both(state) for state in kind.states), table(words, one + other, quiet)))

    def test_products_and_unions_are_those_of_the_pairs(self):
        for words in (("take", "once", "end"), ("keep", "flip1", "raise"), ("take", "set1", "still")):
            for (a, a_pairs), (b, b_pairs) in product(some_effects(Kind(*words)), repeat=2):
                through = {(start, end) for start, middle in a_pairs for again, end in b_pairs if middle == again}
                self.assertTrue(same(list((a * b).pairs()), sorted(through)))
                self.assertTrue(same(list((a | b).pairs()), sorted(a_pairs | b_pairs)))
                self.assertEqual([(a * b).kind, (a | b).kind], [a.kind, a.kind])
                self.assertEqual((a | b) * a, (a * a) | (b * a))

    def test_comparisons_are_those_of_the_pairs(self):
        for words in (("take", "once", "end"), ("keep", "flip1", "drift"), ("take", "set1", "raise")):
            for (a, a_pairs), (b, b_pairs) in product(some_effects(Kind(*words)), repeat=2):
                self.assertIs(a.within(b), a_pairs <= b_pairs)
                self.assertIs(a == b, a_pairs == b_pairs)
                self.assertIs(a != b, a_pairs != b_pairs)
                self.assertTrue(same(effect_parting(a, b), min(a_pairs ^ b_pairs, default=None)))

    def test_operations_change_nothing(self):
        kind = Kind("take", "once", "raise")
        a, b = Effect.of(kind, "1"), Effect.of(kind, "r", quiet=True)
        before = [list(a.pairs()), list(b.pairs())]
        first = a
        a *= b
        a |= b
        self.assertEqual(a, (first * b) | b)
        self.assertEqual([list(first.pairs()), list(b.pairs())], before)

    def test_nothing_else_is_equal(self):
        kind = Kind("keep", "store", "drift")
        effect = Effect.of(kind, "")
        self.assertEqual(effect, Effect.of(kind, "01r"))
        self.assertEqual(Effect.of(Kind("keep", "store", "still"), "1"),
                         Effect.of(Kind("keep", "store", "still"), "1", quiet=True))
        # the same pairs, but another kind
        self.assertNotEqual(effect, Effect.of(Kind("keep", "set1", "drift"), ""))
        for value in (tuple(effect.pairs()), list(effect.pairs()), kind, "", *ODD_VALUES):
            self.assertIs(effect == value, False)
            self.assertIs(value == effect, False)
            self.assertIs(effect != value, True)


class AllEffects(unittest.TestCase):
    def test_all_effects_with_their_first_letters(self):
        for (words, kind), quiet in product(each_kind(), (False, True)):
            wanted = first_letters(words, quiet)
            found = list(all_effects(kind, quiet=quiet))
            self.assertTrue(same([letters for letters, effect in found], list(wanted.values())), (words, quiet))
            for (letters, effect), rows in zip(found, wanted):
                self.assertEqual(effect, Effect.of(kind, letters, quiet=quiet))
                self.assertTrue(same(tuple(effect(state) for state in kind.states), rows))

    def test_no_string_is_left_out(self):
        for (words, kind), quiet in product(each_kind(), (False, True)):
            found = [effect for letters, effect in all_effects(kind, quiet=quiet)]
            for effect, letter in product(found, "01r"):
                self.assertIn(effect * Effect.of(kind, letter, quiet=quiet), found)

    def test_they_come_one_by_one(self):
        rest = all_effects(Kind("take", "once", "still"))
        self.assertEqual([letters for letters, effect in islice(rest, 2)], ["", "0"])
        self.assertEqual([letters for letters, effect in rest], ["1", "r", "0r", "r1"])

    def test_shortest(self):
        for (words, kind), quiet in product(each_kind(), (False, True)):
            wanted = first_letters(words, quiet)
            for letters in (*SHORT[:60], LONG):
                first = wanted[table(words, letters, quiet)]
                self.assertTrue(same(shortest(kind, letters, quiet=quiet), first), (words, letters, quiet))


class Refusals(unittest.TestCase):
    def refuse(self, value, index):
        for quiet in (False, True):
            for words in (("keep", "store", "still"), ("take", "once", "drift")):
                kind = Kind(*words)
                refused(self, InvalidLetters, {"index": index}, Effect.of, kind, value, quiet=quiet)
                refused(self, InvalidLetters, {"index": index}, shortest, kind, value, quiet=quiet)

    def test_no_strings(self):
        for value in (*ODD_VALUES, 0, 1, ["0"], ("0", "1"), {"r": "r"}):
            if not isinstance(value, str):
                self.refuse(value, 0)

    def test_the_first_wrong_character(self):
        for good, wrong in product(("", "0", "1r", "0r1r0r", LONG[:39]), ("x", "R", "2", " ", "\n", "01r"[::-1] + "O")):
            at = len(good) + (3 if len(wrong) > 1 else 0)
            self.refuse(good + wrong, min(at, 40))
            self.refuse(good + wrong + "?" * 50, min(at, 40))
        self.refuse("-", 0)
        self.refuse("x" * 6000, 0)

    def test_at_most_40_letters(self):
        kind = Kind("keep", "store", "still")
        self.assertEqual(len(LONG), 40)
        self.assertEqual(Effect.of(kind, "0" * 39 + "1"), Effect.of(kind, "1"))
        self.assertEqual(shortest(kind, "1" * 39 + "0"), "0")
        self.refuse("0" * 41, 40)
        self.refuse(LONG + LONG, 40)
        self.refuse("r" * 6000, 40)
        self.refuse("0" * 40 + "x", 40)
        self.refuse("0" * 41 + "x", 40)
        self.refuse("0" * 39 + "x", 39)
        self.refuse("0" * 39 + "x" + "0" * 20, 39)

    def test_two_kinds(self):
        kind = Kind("keep", "store", "still")
        for words in reckoned.ALL_WORDS:
            a, b = Effect.of(kind, ""), Effect.of(Kind(*words), "")
            for call in (lambda: a * b, lambda: a | b, lambda: a.within(b), lambda: effect_parting(a, b)):
                if kind == b.kind:
                    call()
                else:
                    with self.assertRaises(InvalidKind) as caught:
                        call()
                    self.assertIs(caught.exception.value, b.kind)


if __name__ == "__main__":
    unittest.main()
