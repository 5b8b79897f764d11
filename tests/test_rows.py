import random
import unittest
from itertools import combinations

from drawn import drawn_map, drawn_step, made
from keptbits.blends import Blend
from keptbits.errors import InvalidStep, InvalidSystem, TooLarge
from keptbits.fields import Field, KeyRegister, Register
from keptbits.maps import DeviceMap
from keptbits.rows import (alike, components, needed, outcomes, parting, reached, shows_reached, starts, way_to)
from keptbits.steps import Pair, Read, Serve, Write
from keptbits.systems import System
from keptbits.tasks import Task
from rowworld import RowWorld, alike_told, components_told, items_told, starts_told
from samples import ODD_VALUES, refused, same

PLAIN = DeviceMap(8, Register("I", Field("L", 0, 1, writing="none", device="drift")), Register("M", Field("A", 0, 1)),
                  Register("N", Field("B", 0, 1)))
READ = Read("a", "I", "w")
TO_A, TO_B = (Write(port, "w", Blend(8) & 1, variable="a") for port in "MN")
ONE = [READ, TO_A, TO_B]
TWO = [READ, TO_A, READ, TO_B]
COMPONENT = (("bit", "L", 0), ("bit", "A", 0), ("bit", "B", 0), ("var", "a", 0))


def drawn_rows(draw, layout, many):
    """Rows that are right on a map, at most so long."""
    rows = []
    for _ in range(2):
        row = []
        for _ in range(40):
            step = drawn_step(draw, layout)
            longer = [*row, step]
            if isinstance(step, (Read, Write)) and made(System, layout, made(Task, "x", *longer)) is not None:
                row = longer
            if len(row) >= draw.randint(1, many):
                break
        rows.append(row)
    if draw.random() < 0.5:
        # rows that differ in one step only are often alike
        rows[1] = [step for k, step in enumerate(rows[0]) if k != draw.randrange(len(rows[0]) + 1)]
        if rows[1] and made(System, layout, Task("x", *rows[1])) is None:
            rows[1] = list(rows[0])
    return rows


def drawn_case(draw, many=4, most=40):
    """(map, first row, second row) whose starts over all bits and keys are not too many."""
    while True:
        layout = drawn_map(draw)
        first, second = drawn_rows(draw, layout, many)
        if len(starts_told(layout, items_told(layout, [first, second]))) <= most:
            return layout, first, second


def loaded(row):
    return sorted({step.variable for step in row if isinstance(step, Read)})


def drawn_kept(draw, *rows):
    names = [name for name in "ab" if all(name in loaded(row) for row in rows)]
    return tuple(draw.sample(names, draw.randint(0, len(names))))


def places_of(items, component):
    return [items.index(item) for item in component]


def part(state, places):
    return tuple(state[k] for k in places)


class Examples(unittest.TestCase):
    def test_the_example(self):
        self.assertTrue(same(components(PLAIN, ONE, TWO), (COMPONENT,)))
        self.assertIs(alike(PLAIN, ONE, TWO), False)
        self.assertTrue(same(parting(PLAIN, ONE, TWO), (COMPONENT, (0, 0, 0), (0, 0, 1), 1)))
        self.assertTrue(same(parting(PLAIN, TWO, ONE), (COMPONENT, (0, 0, 0), (0, 0, 1), 0)))
        self.assertTrue(same(needed(PLAIN, TWO), (0, 1, 2, 3)))
        self.assertTrue(same(needed(PLAIN, ONE), (0, 1, 2)))
        self.assertIs(parting(PLAIN, ONE, list(ONE)), None)

    def test_names_of_arguments(self):
        start, row = (0, 0, 0), TWO
        told = reached(layout=PLAIN, row=row, component=COMPONENT, start=start)
        self.assertIs(shows_reached(layout=PLAIN, row=row, component=COMPONENT, start=start, told=told), True)
        found = outcomes(layout=PLAIN, row=row, kept=("a",), component=COMPONENT, start=start)
        self.assertEqual(len(found), 8)
        way = way_to(layout=PLAIN, row=row, kept=("a",), component=COMPONENT, start=start, outcome=found[0])
        self.assertTrue(same(way, tuple(("step", k) for k in range(4))))
        self.assertIs(alike(layout=PLAIN, first=ONE, second=TWO, kept=("a",)), False)
        self.assertEqual(parting(layout=PLAIN, first=ONE, second=TWO, kept=())[3], 1)
        self.assertEqual(needed(layout=PLAIN, row=[READ, READ], kept=("a",)), (0,))
        self.assertEqual(starts(layout=PLAIN, component=COMPONENT)[0], start)

    def test_what_plays_no_part(self):
        meant = [Read("a", "I", "w", "A"), Write("M", "w", Blend(8) & 1, "B", variable="a"), TO_B]
        self.assertIs(alike(PLAIN, ONE, meant), True)
        # another variable is as good, if it is not kept
        other = [Read("b", "I", "w"), *[Write(port, "w", Blend(8) & 1, variable="b") for port in "MN"]]
        self.assertIs(alike(PLAIN, ONE, other), True)
        both = [[READ, Read("b", "I", "w"), *row[1:]] for row in (ONE, other)]
        self.assertIs(alike(PLAIN, *both), True)
        self.assertIs(alike(PLAIN, *both, ("a",)), False)
        self.assertIs(alike(PLAIN, both[0], both[0], ("b", "a")), True)


class Components(unittest.TestCase):
    def test_components(self):
        field = Field("L", 3, 1)
        layout = DeviceMap(8, Register("R", Field("X", 0, 2, lock="L", key="K"), field, Field("H", 4, 1, writing="none", held="L")),
                           KeyRegister("J", 1), KeyRegister("K", 1, 2))
        x, l, h, k = [("bit", "X", 0), ("bit", "X", 1)], ("bit", "L", 0), ("bit", "H", 0), ("key", "K")
        # without rows, too, bits meet what guards them; a held bit needs nothing
        self.assertTrue(same(components(layout), ((*x, l, k), (h,), (("key", "J"),))))
        self.assertTrue(same(components(layout, []), ((*x, l, k), (h,), (("key", "J"),))))
        read = Read("b", "R", "w")
        bits = [("var", "b", j) for j in (0, 1, 3, 4)]
        self.assertTrue(same(components(layout, [read]), ((*x, l, k, *bits[:3]), (h, bits[3]), (("key", "J"),))))
        # a Read that loads other bits in another row joins them
        twice = [Read("b", "K", "w")]
        self.assertTrue(same(components(layout, [read], twice), components(layout, [read])))

    def test_a_row_that_uses_what_another_one_loads(self):
        layout = DeviceMap(8, Register("I", Field("A", 0, 1)), Register("J", Field("B", 1, 1)), Register("O", Field("C", 0, 1)))
        write = Write("O", "w", Blend(8) & 1, variable="a")
        a, b, c = (("bit", name, 0) for name in "ABC")
        loads, uses = [Read("a", "I", "w")], [Read("a", "J", "w"), write]
        self.assertTrue(same(components(layout, loads), ((a, ("var", "a", 0)), (b,), (c,))))
        self.assertTrue(same(components(layout, uses), ((a,), (b, ("var", "a", 1)), (c,))))
        self.assertTrue(same(components(layout, loads, uses), ((a, c, ("var", "a", 0)), (b, ("var", "a", 1)))))

    def test_drawn_components(self):
        draw = random.Random(110)
        for _ in range(300):
            layout = drawn_map(draw)
            rows = [row for _ in range(draw.randint(0, 2)) for row in drawn_rows(draw, layout, 6)]
            self.assertTrue(same(components(layout, *rows), components_told(layout, rows)))


class Starts(unittest.TestCase):
    def test_starts(self):
        self.assertTrue(same(starts(PLAIN, COMPONENT), tuple((a, b, c) for a in (0, 1) for b in (0, 1) for c in (0, 1))))
        layout = DeviceMap(8, Register("R", Field("F", 0, 1, commit="C"), Field("C", 1, 1, writing="once"),
                                       Field("H", 2, 1, writing="none", held="G"), Field("G", 3, 1, key="K")),
                           KeyRegister("K", 1, 1, 1))
        self.assertTrue(same(components(layout), ((("bit", "F", 0), ("bit", "C", 0)), (("bit", "H", 0),),
                                                  (("bit", "G", 0), ("key", "K")))))
        self.assertTrue(same(starts(layout, components(layout)[0]), tuple((a, b) for a in range(4) for b in range(4))))
        self.assertTrue(same(starts(layout, components(layout)[1]), ((0,), (1,), (2,), (3,))))
        self.assertTrue(same(starts(layout, components(layout)[2]), tuple((a, b) for a in range(2) for b in range(4))))

    def test_drawn_starts(self):
        draw = random.Random(111)
        for _ in range(60):
            layout, first, second = drawn_case(draw)
            for component in components(layout, first, second):
                many = 2 ** sum(item[0] == "var" for item in component) * len(starts_told(layout, component))
                if many > 64:
                    refused(self, TooLarge, {"limit": 64}, starts, layout, component)
                else:
                    self.assertTrue(same(starts(layout, component), tuple(starts_told(layout, component))))


class Large(unittest.TestCase):
    """Components of 64 states and of more."""

    def layout(self, size):
        return DeviceMap(16, Register("R", Field("A", 0, size, writing="once", device="drift")), Register("S", Field("B", 0, 1)))

    def join(self, size):
        """A row whose component has size bits of A with 4 values each, and as many variable bits and B."""
        return [Read("a", "R", "w"), *[Write("S", "w", (Blend(16) >> k) & 1, variable="a") for k in range(size)]]

    def test_limits(self):
        for size, many in ((1, 16), (2, 128)):
            layout, row = self.layout(size), self.join(size)
            component = components(layout, row)[0]
            self.assertEqual(len(component), 2 * size + 1)
            if many <= 64:
                self.assertEqual(len(starts(layout, component)), 8)
                self.assertIs(alike(layout, row, row), True)
                continue
            start = (0,) * (size + 1)
            told = {"limit": 64}
            refused(self, TooLarge, told, starts, layout, component)
            refused(self, TooLarge, told, reached, layout, row, component, start)
            for value in ((), None, ((start,),) * 4):
                refused(self, TooLarge, told, shows_reached, layout, row, component, start, value)
                refused(self, TooLarge, told, way_to, layout, row, (), component, start, value)
            refused(self, TooLarge, told, outcomes, layout, row, (), component, start)
            for call in (alike, parting):
                refused(self, TooLarge, told, call, layout, row, row)
                refused(self, TooLarge, told, call, layout, row, row, ("a",))
                refused(self, TooLarge, told, call, layout, [], row)
                refused(self, TooLarge, told, call, layout, row, [])
            refused(self, TooLarge, told, needed, layout, row)

    def test_just_not_too_large(self):
        layout = DeviceMap(8, Register("R", Field("A", 0, 1, key="K", writing="once"), Field("B", 1, 1, key="K", lock="L"),
                                       Field("L", 2, 1)), KeyRegister("K", 1, 2, 3))
        component = components(layout)[0]
        self.assertEqual(len(starts(layout, component)), 64)
        self.assertIs(alike(layout, [], []), True)
        self.assertEqual(needed(layout, [Write("K", "w", Blend.constant(8, 1))]), (0,))
        layout = DeviceMap(8, Register("R", Field("A", 0, 1, key="K", writing="once"), Field("B", 1, 1, key="K", writing="once")),
                           KeyRegister("K", 1, 2, 3, ))
        self.assertEqual(len(starts(layout, components(layout)[0])), 64)
        read = [Read("a", "R", "w")]
        refused(self, TooLarge, {"limit": 64}, starts, layout, components(layout, read)[0])
        refused(self, TooLarge, {"limit": 64}, needed, layout, read)

    def test_each_component_is_asked_first(self):
        """The first component tells two rows apart, the last one is too large."""
        layout = DeviceMap(16, Register("N", Field("C", 0, 1)), Register("R", Field("A", 0, 3, writing="once")),
                           Register("S", Field("B", 0, 1)))
        row = [Read("a", "R", "w"), *[Write("S", "w", (Blend(16) >> k) & 1, variable="a") for k in range(3)]]
        set_c = Write("N", "w", Blend.constant(16, 1))
        self.assertEqual(components(layout, row)[0], (("bit", "C", 0),))
        for call in (alike, parting):
            refused(self, TooLarge, {"limit": 64}, call, layout, [*row, set_c], row)
        refused(self, TooLarge, {"limit": 64}, needed, layout, row)
        # one component alone may be asked of
        self.assertTrue(same(reached(layout, [set_c], (("bit", "C", 0),), (0,)), (((0,),), ((1,),))))


class Reached(unittest.TestCase):
    def test_the_example(self):
        start = (0, 1, 0)
        wanted = (((0, 1, 0, 0), (1, 1, 0, 0)), ((0, 1, 0, 0), (0, 1, 0, 1), (1, 1, 0, 0), (1, 1, 0, 1)),
                  ((0, 0, 0, 0), (0, 1, 0, 1), (1, 0, 0, 0), (1, 1, 0, 1)))
        self.assertTrue(same(reached(PLAIN, ONE[:2], COMPONENT, start), wanted))
        self.assertTrue(same(reached(PLAIN, [], COMPONENT, start), wanted[:1]))
        self.assertTrue(same(outcomes(PLAIN, ONE[:2], (), COMPONENT, start), ((0, 0, 0), (0, 1, 0), (1, 0, 0), (1, 1, 0))))
        self.assertTrue(same(outcomes(PLAIN, ONE[:2], ("a",), COMPONENT, start), wanted[2]))

    def test_a_raise_is_enabled_if_the_bit_is_zero(self):
        layout = DeviceMap(8, Register("R", Field("E", 0, 1, writing="clear1", device="raise")))
        component = components(layout)[0]
        self.assertTrue(same(reached(layout, [], component, (0,)), (((0,), (1,)),)))
        self.assertTrue(same(reached(layout, [], component, (1,)), (((1,),),)))
        write = Write("R", "w", Blend.constant(8, 1))
        self.assertTrue(same(reached(layout, [write], component, (1,)), (((1,),), ((0,), (1,)))))
        self.assertTrue(same(way_to(layout, [write, write], (), component, (1,), (1,)),
                             (("step", 0), ("step", 1), ("device", "E", 0))))

    def test_drawn_rows(self):
        draw = random.Random(112)
        for _ in range(150):
            layout, first, second = drawn_case(draw)
            items = items_told(layout, [first, second])
            world = RowWorld(layout, items)
            start = draw.choice(starts_told(layout, items))
            for row in (first, second):
                whole = world.reached(row, start)
                kept = drawn_kept(draw, row)
                for component in components(layout, first, second):
                    places = places_of(items, component)
                    mine = part(start + (0,) * 99, [k for k in places if items[k][0] != "var"])
                    if made(starts, layout, component) is None:
                        continue
                    wanted = tuple(tuple(sorted({part(state, places) for state in states})) for states in whole)
                    self.assertTrue(same(reached(layout, row, component, mine), wanted))
                    seen = [k for k, item in enumerate(component) if item[0] != "var" or item[1] in kept]
                    ends = tuple(sorted({part(state, seen) for state in wanted[-1]}))
                    self.assertTrue(same(outcomes(layout, row, kept, component, mine), ends))


class Told(unittest.TestCase):
    def test_what_shows_it(self):
        draw = random.Random(113)
        for _ in range(80):
            layout, row, _ = drawn_case(draw)
            component = draw.choice(components(layout, row))
            if made(starts, layout, component) is None:
                continue
            start = draw.choice(starts(layout, component))
            told = reached(layout, row, component, start)
            self.assertIs(shows_reached(layout, row, component, start, told), True)
            mixed = tuple(tuple(draw.sample(stage * 2, 2 * len(stage))) for stage in told)
            self.assertIs(shows_reached(layout, row, component, start, mixed), True)
            for k, stage in enumerate(told):
                for i in range(len(stage)):
                    less = (*told[:k], stage[:i] + stage[i + 1:], *told[k + 1:])
                    self.assertIs(shows_reached(layout, row, component, start, less), False)
            for wrong in (list(told), told[:-1], (*told, told[-1]), told[::-1] if len(told) > 1 and told[0] != told[-1] else (),
                          (*told[:-1], list(told[-1])), (*told[:-1], (*told[-1], list(start)))):
                if wrong != told[::-1] or told[-1] != told[0]:
                    self.assertIs(shows_reached(layout, row, component, start, wrong), self.closed(layout, row, component, start, wrong))

    def closed(self, layout, row, component, start, told):
        """Whether a tuple of as many tuples of states has the start and is closed, as the document tells."""
        if not isinstance(told, tuple) or len(told) != len(row) + 1:
            return False
        if not all(isinstance(stage, tuple) and all(isinstance(state, tuple) for state in stage) for stage in told):
            return False
        world = RowWorld(layout, list(component))
        full = start + (0,) * (len(component) - len(start))
        return full in told[0] and all(
            all(after in stage for state in stage for move, after in world.deeds(state)) for stage in told) and all(
            world.after_step(state, step) in later for step, stage, later in zip(row, told, told[1:]) for state in stage)

    def test_more_than_is_reached(self):
        start, told = (0, 0, 0), reached(PLAIN, ONE, COMPONENT, (0, 0, 0))
        states = tuple((a, b, c, d) for a in (0, 1) for b in (0, 1) for c in (0, 1) for d in (0, 1))
        self.assertIs(shows_reached(PLAIN, ONE, COMPONENT, start, (states,) * 4), True)
        # a state that is told must be closed, too, although it is not reached
        for stage in range(4):
            for state in states:
                wider = (*told[:stage], (*told[stage], state), *told[stage + 1:])
                self.assertIs(shows_reached(PLAIN, ONE, COMPONENT, start, wider),
                              self.closed(PLAIN, ONE, COMPONENT, start, wider))

    def test_any_value(self):
        start, told = (0, 0, 0), reached(PLAIN, ONE, COMPONENT, (0, 0, 0))
        for value in (*ODD_VALUES, told[0], (told,), {0: told}, (0, 0, 0, 0), (0, 0, 0), (0, 0, 0, 0, 0), (0, 0, 0, False),
                      (True, 0, 0, 0), [0, 0, 0, 0], (2, 0, 0, 0), (-1, 0, 0, 0), ("0", 0, 0, 0), ((0,), 0, 0, 0)):
            if value != ():
                self.assertIs(shows_reached(PLAIN, ONE, COMPONENT, start, value), False)
                for stage in range(4):
                    if value != told[stage]:
                        spoilt = (*told[:stage], value, *told[stage + 1:])
                        self.assertIs(shows_reached(PLAIN, ONE, COMPONENT, start, spoilt), False)
            for stage in range(4):
                if not same(value, (0, 0, 0, 0)):
                    wider = (*told[:stage], (*told[stage], value), *told[stage + 1:])
                    self.assertIs(shows_reached(PLAIN, ONE, COMPONENT, start, wider), False)
        # True is not 1
        spoilt = tuple(tuple((bool(state[0]), *state[1:]) for state in stage) for stage in told)
        self.assertIs(shows_reached(PLAIN, ONE, COMPONENT, start, spoilt), False)


class Ways(unittest.TestCase):
    def test_drawn_ways(self):
        draw, many = random.Random(114), 0
        while many < 150:
            layout, row, other = drawn_case(draw, most=30)
            kept = drawn_kept(draw, row)
            component = draw.choice(components(layout, row, other))
            if made(starts, layout, component) is None:
                continue
            start = draw.choice(starts(layout, component))
            world = RowWorld(layout, list(component))
            found = outcomes(layout, row, kept, component, start)
            for outcome in found:
                many += 1
                way = way_to(layout, row, kept, component, start, outcome)
                self.assertEqual(len(way), world.fewest_moves(row, kept, start, outcome))
                state, steps = start + (0,) * (len(component) - len(start)), list(enumerate(row))
                for move in way:
                    if move[0] == "step":
                        k, step = steps.pop(0)
                        self.assertTrue(same(move, ("step", k)))
                        state = world.after_step(state, step)
                    else:
                        state = dict(world.deeds(state))[move]
                self.assertEqual(steps, [])
                seen = [k for k, item in enumerate(component) if item[0] != "var" or item[1] in kept]
                self.assertTrue(same(part(state, seen), outcome))
            for outcome in starts(layout, component):
                if outcome not in found:
                    self.assertIs(way_to(layout, row, kept, component, start, outcome), None)

    def test_any_value(self):
        found = outcomes(PLAIN, ONE, (), COMPONENT, (0, 0, 0))
        self.assertTrue(same(found, ((0, 0, 0), (0, 1, 1), (1, 0, 0), (1, 1, 1))))
        for value in (*ODD_VALUES, (0, 0, 1), (0, 0), (0, 0, 0, 0), (False, 0, 0), (0, True, 1), [0, 0, 0], ("0", 0, 0),
                      ((0, 0, 0),), {0: 0}, (2, 0, 0)):
            self.assertIs(way_to(PLAIN, ONE, (), COMPONENT, (0, 0, 0), value), None)
        self.assertTrue(same(way_to(PLAIN, ONE, (), COMPONENT, (1, 1, 1), (1, 1, 1)), (("step", 0), ("step", 1), ("step", 2))))
        self.assertTrue(same(way_to(PLAIN, [], (), COMPONENT, (1, 0, 1), (1, 0, 1)), ()))
        self.assertTrue(same(way_to(PLAIN, [], (), COMPONENT, (1, 0, 1), (0, 0, 1)), (("device", "L", 0),)))


class Alike(unittest.TestCase):
    def test_drawn_rows(self):
        draw, found = random.Random(115), []
        for _ in range(250):
            layout, first, second = drawn_case(draw, most=32)
            kept = drawn_kept(draw, first, second)
            parts = components(layout, first, second)
            if any(made(starts, layout, component) is None for component in parts):
                refused(self, TooLarge, {"limit": 64}, alike, layout, first, second, kept)
                refused(self, TooLarge, {"limit": 64}, parting, layout, first, second, kept)
                continue
            wanted = alike_told(layout, first, second, kept)
            self.assertIs(alike(layout, first, second, kept), wanted)
            self.assertTrue(same(parting(layout, first, second, kept), self.told(layout, first, second, kept, parts)))
            self.assertEqual(parting(layout, first, second, kept) is None, wanted)
            found.append(wanted)
        self.assertGreater(found.count(True), 40)
        self.assertGreater(found.count(False), 40)

    def told(self, layout, first, second, kept, parts):
        for component in parts:
            for start in starts(layout, component):
                one, other = [set(outcomes(layout, row, kept, component, start)) for row in (first, second)]
                if one != other:
                    outcome = min(one ^ other)
                    return component, start, outcome, int(outcome in other)
        return None

    def test_kept_variables(self):
        layout = DeviceMap(8, Register("R", Field("A", 0, 1, reading="take")), Register("S", Field("B", 0, 1)))
        one, other = [Read("a", "R", "w"), Read("b", "S", "w")], [Read("a", "R", "w"), Read("b", "R", "w")]
        self.assertIs(alike(layout, one, other), True)
        self.assertIs(alike(layout, one, other, ("a",)), True)
        self.assertIs(alike(layout, one, other, ("b",)), False)
        self.assertTrue(same(parting(layout, one, other, ("a", "b")),
                             ((("bit", "A", 0), ("bit", "B", 0), ("var", "a", 0), ("var", "b", 0)), (0, 1), (0, 1, 0, 0), 1)))


class Needed(unittest.TestCase):
    def test_examples(self):
        one, zero = (Write("M", "w", Blend.constant(8, bit)) for bit in (1, 0))
        for row, kept, wanted in (([], (), ()), ([one, zero], (), (1,)), ([one, one], (), (0,)), ([READ], (), ()),
                                  ([READ, READ], ("a",), (0,)), ([READ, TO_A, zero], (), (2,)), ([one, READ, TO_A], (), (1, 2)),
                                  ([zero, READ, TO_B, READ, one], ("a",), (2 - 1, 2, 4 - 1, 4))):
            self.assertTrue(same(needed(PLAIN, row, kept), wanted), (row, kept))

    def test_drawn_rows(self):
        draw, sizes = random.Random(116), set()
        for _ in range(70):
            layout, row, _ = drawn_case(draw, many=5, most=24)
            kept = drawn_kept(draw, row)
            if any(made(starts, layout, component) is None for component in components(layout, row)):
                refused(self, TooLarge, {"limit": 64}, needed, layout, row, kept)
                continue
            wanted = next(some for size in range(len(row) + 1) for some in combinations(range(len(row)), size)
                          if self.is_enough(layout, row, some, kept))
            self.assertTrue(same(needed(layout, row, kept), wanted))
            sizes.add((len(row), len(wanted)))
        self.assertGreater(len(sizes), 8)

    def is_enough(self, layout, row, some, kept):
        steps = [row[k] for k in some]
        if steps and made(System, layout, Task("x", *steps)) is None or not set(kept) <= set(loaded(steps)):
            return False
        return alike_told(layout, row, steps, kept)


# For each function with rows: a call with a row and kept variables in the places of those that are asked for.
CALLS = (
    lambda row, kept: components(PLAIN, row),
    lambda row, kept: components(PLAIN, ONE, row, None),
    lambda row, kept: reached(PLAIN, row, COMPONENT, (0, 0, 0)),
    lambda row, kept: shows_reached(PLAIN, row, COMPONENT, (0, 0, 0), None),
    lambda row, kept: outcomes(PLAIN, row, kept, COMPONENT, (0, 0, 0)),
    lambda row, kept: way_to(PLAIN, row, kept, COMPONENT, (0, 0, 0), None),
    lambda row, kept: alike(PLAIN, row, None, kept),
    lambda row, kept: alike(PLAIN, ONE, row, kept),
    lambda row, kept: parting(PLAIN, row, None, kept),
    lambda row, kept: parting(PLAIN, ONE, row, kept),
    lambda row, kept: needed(PLAIN, row, kept),
)
WITH_KEPT = (
    lambda kept: outcomes(PLAIN, ONE, kept, COMPONENT, (0, 0, 0)),
    lambda kept: way_to(PLAIN, ONE, kept, COMPONENT, (0, 0, 0), None),
    lambda kept: alike(PLAIN, ONE, TWO, kept),
    lambda kept: alike(PLAIN, ONE, TWO, kept=kept),
    lambda kept: parting(PLAIN, TWO, ONE, kept),
    lambda kept: needed(PLAIN, TWO, kept),
)


class Errors(unittest.TestCase):
    def test_rows(self):
        # what is wrong with kept variables or with a later row is told later
        for call in CALLS:
            for kept in ((), None, ("z",)):
                for value in (*ODD_VALUES, tuple(ONE), [*ONE, None], [READ] * 7, [READ, Serve("a", 1)], [Pair("a", "b", "L")],
                              [ONE], READ, {0: READ}, [READ, "read a I w"]):
                    if value != []:
                        refused(self, InvalidStep, {"reason": "row"}, call, value, kept)

    def test_steps(self):
        blend = Blend(8)
        steps = (
            (Read("a", "L", "w"), "port"), (Read("a", "X", "w"), "port"), (Read("a", "I", "b0"), "lane"),
            (Write("I", "w", Blend.constant(16, 0)), "blend"), (Read("a", "I", "w", "I"), "means"),
            (Write("I", "w", blend, variable="b"), "loaded"), (Write("I", "w", blend, "X", variable="c"), "means"),
        )
        for call in CALLS:
            for step, reason in steps:
                for row in ([step], [READ, step], [READ, TO_A, step, step], [READ, step, Read("a", "X", "w")]):
                    told = {"name": "row", "index": row.index(step), "reason": reason}
                    refused(self, InvalidSystem, told, call, row, None)
            three = [READ, Read("b", "I", "w"), Read("b", "M", "w"), Read("c", "I", "w")]
            refused(self, InvalidSystem, {"name": "row", "index": 3, "reason": "variables"}, call, three, ())
            refused(self, InvalidSystem, {"name": "row", "index": 0, "reason": "loaded"}, call, [TO_A, READ], ())
            # the form of a whole row is looked at first
            refused(self, InvalidStep, {"reason": "row"}, call, [TO_A, None], ())

    def test_steps_at_a_key_register(self):
        layout = DeviceMap(16, Register("R", Field("A", 0, 1)), KeyRegister("K", 1))
        for write in (Write("K", "b0", Blend.constant(16, 1)), Write("K", "w", Blend(16), variable="a")):
            refused(self, InvalidSystem, {"name": "row", "index": 1, "reason": "key"}, components, layout,
                    [Read("a", "R", "w"), write])
        refused(self, InvalidSystem, {"name": "row", "index": 0, "reason": "blend"}, needed, layout,
                [Write("R", "b0", Blend.constant(16, 256))])

    def test_the_first_row_that_is_wrong(self):
        wrong = [Read("a", "X", "w")]
        for call in (components, alike, parting):
            refused(self, InvalidSystem, {"reason": "port"}, call, PLAIN, wrong, None)
            refused(self, InvalidStep, {"reason": "row"}, call, PLAIN, None, wrong)
            refused(self, InvalidStep, {"reason": "row"}, call, PLAIN, ONE, None)

    def test_kept(self):
        for call in WITH_KEPT:
            for value in (*ODD_VALUES, ("b",), ("a", "b"), ("a", "a"), ["a"], "a", {"a": 1}, (1,), ("A",), ("aa",), (("a",),),
                          (["a"],), ("a", None)):
                if value != ():
                    refused(self, InvalidStep, {"reason": "kept"}, call, value)
        other = [Read("b", "I", "w")]
        # each row must load it
        for call in (alike, parting):
            for rows in ((ONE, other), (other, ONE), (ONE, []), ([], ONE)):
                refused(self, InvalidStep, {"reason": "kept"}, call, PLAIN, *rows, ("a",))
            self.assertIsNotNone(call(PLAIN, [*ONE, *other], [*other, READ], ("b", "a")))

    def test_kept_ahead_of_what_is_too_large(self):
        layout = DeviceMap(8, Register("R", Field("A", 0, 4, writing="once", lock="A0")), Register("S", Field("A0", 0, 1)))
        component = components(layout)[0]
        self.assertEqual(len(component), 5)
        for call, args in ((outcomes, (component, ())), (way_to, (component, (), None))):
            refused(self, InvalidStep, {"reason": "kept"}, call, layout, [], None, *args)
            refused(self, TooLarge, {"limit": 64}, call, layout, [], (), *args)
            refused(self, InvalidStep, {"reason": "row"}, call, layout, (), None, *args)
        refused(self, InvalidStep, {"reason": "row"}, reached, layout, (), component, ())
        refused(self, InvalidStep, {"reason": "row"}, shows_reached, layout, (), component, (), None)
        for call in (alike, parting):
            refused(self, InvalidStep, {"reason": "kept"}, call, layout, [], [], None)
            refused(self, TooLarge, {"limit": 64}, call, layout, [], [])
        refused(self, InvalidStep, {"reason": "kept"}, needed, layout, [], ("a",))
        refused(self, TooLarge, {"limit": 64}, needed, layout, [])


if __name__ == "__main__":
    unittest.main()
