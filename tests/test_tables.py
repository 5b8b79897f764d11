import random
import unittest

from drawn import drawn_system
from keptbits.errors import TooLarge
from keptbits.systems import System
from keptbits.tables import Table
from keptbits.units import Unit, units_of
from large import FULL, OVER, VAST
from samples import ODD_VALUES, refused, same
from search import is_safe, levels_of
from test_moves import BOTH, EARLY, READY

START = ((0,), ((0, 0), (0, 0)), ())
RAISED = ((0,), ((1, 1), (0, 0)), (("READY", 0, 0),))
STEPPED = ((1,), ((0, 0), (0, 0)), ())
SECOND = ((2,), ((1, 1), (1, 2)), (("READY", 0, 0), ("READY", 0, 0)))
# values that are no states, though some of them look like the start
NO_STATES = (*ODD_VALUES, ((False,), ((0, 0), (0, 0)), ()), ([0], ((0, 0), (0, 0)), ()), [(0,), ((0, 0), (0, 0)), ()],
             ((0,), ((0, 0), (0, False)), ()), ((0,), ((0, 0), (0, 0)), []), ((0,), ((0, 0), (0, 0))), repr(START))


def ready():
    return Unit.of_all(System.of_text(READY))


def levels_told(unit):
    return [tuple(level) for level in levels_of(unit)]


def place(levels, value, most):
    """(level, index) of a value in the levels from 0 to the most, or None."""
    for k, level in enumerate(levels[:most + 1]):
        for i, other in enumerate(level):
            if same(value, other):
                return k, i
    return None


def is_formed(levels, depth):
    for level in levels:
        if not isinstance(level, tuple) or level == ():
            return False
    if not levels:
        return same(depth, 0)
    return depth is None or len(levels) <= depth


def fault_told(unit, levels, depth=None):
    """The fault of a table, word by word as the document tells."""
    if not is_formed(levels, depth):
        return ("form",)
    values = [(k, i, value) for k, level in enumerate(levels) for i, value in enumerate(level)]
    for k, i, value in values:
        if place(levels, value, len(levels)) != (k, i):
            return ("twice", k, i)
    if levels and place(levels[:1], unit.start, 0) is None:
        return ("start",)
    reached = [] if not levels else [unit.start]
    for state in reached:
        for move in unit.moves(state):
            after = unit.after(state, move)[0]
            if after not in reached and place(levels, after, len(levels)) is not None:
                reached.append(after)
    spots = {place(levels, state, len(levels)): state for state in reached}
    for k, i, value in values:
        for move in unit.moves(spots[k, i]) if (k, i) in spots else ():
            after, faults = unit.after(spots[k, i], move)
            if faults:
                return ("fault", k, i, move)
            if not (depth is not None and k == depth - 1) and place(levels, after, k + 1) is None:
                return ("leads", k, i, move)
    for k, i, value in values:
        if (k, i) not in spots:
            return ("idle", k, i)
    return None


class Values(unittest.TestCase):
    def test_the_example(self):
        table = Table.of(ready())
        self.assertEqual([len(level) for level in table.levels], [1, 2, 3, 2, 1])
        self.assertTrue(same(table[1], (RAISED, STEPPED)))
        self.assertTrue(same(table[4], (SECOND,)))
        self.assertEqual((len(table), repr(table), table.fault()), (9, "Table(5 levels, 9 states)", None))

    def test_what_a_table_shows(self):
        unit = ready()
        for levels in ([(START,), (RAISED, STEPPED)], ((START,), (RAISED, STEPPED)), [(1, 1, [2]), [3], 4, "x", {5: 6}, ()], []):
            table = Table(unit, levels)
            self.assertIs(table.unit, unit)
            self.assertTrue(same(table.levels, tuple(levels)))
            self.assertTrue(same(list(table), list(levels)))
            for k, level in enumerate(levels):
                self.assertTrue(same(table[k], level))
            many = sum(len(level) for level in levels if isinstance(level, tuple))
            self.assertTrue(same(len(table), many))
            self.assertEqual(repr(table), f"Table({len(levels)} levels, {many} states)")
        self.assertEqual(Table(levels=[], unit=unit).levels, ())
        self.assertTrue(same(Table.MOST, 1000))

    def test_what_is_listed(self):
        table = Table(ready(), [(START, 1, [2]), [3, (4,)], (RAISED, {"a": 1, "b": (True,)}), ((START,),)])
        for value in (START, 1, [2], RAISED, {"b": (True,), "a": 1}, (START,)):
            self.assertIs(value in table, True)
        for value in (*NO_STATES, True, 2, (2,), 3, (4,), (1,), STEPPED, {"a": 1, "b": (1,)}, [START], {"a": 1}, table.levels):
            self.assertIs(value in table, False)
        for value in NO_STATES:
            self.assertIs(value in Table(table.unit, [(0.5,), (value,)]), True)

    def test_later_changes_have_no_effect(self):
        inner, rows = [2], {"a": [3]}
        levels = [(START, inner), [rows]]
        table = Table(ready(), levels)
        told = (table.fault(), len(table), repr(table))
        inner.append(5)
        rows["a"].append(6)
        levels[1].append(7)
        levels.append((8,))
        self.assertTrue(same(table.levels, ((START, [2]), [{"a": [3]}])))
        self.assertEqual((table.fault(), len(table), repr(table)), told)
        self.assertIs([2] in table, True)


class Levels(unittest.TestCase):
    def test_levels_of_drawn_units(self):
        draw, seen = random.Random(70), 0
        while seen < 60:
            for unit in units_of(drawn_system(draw)):
                try:
                    levels = levels_told(unit)
                except OverflowError:
                    refused(self, TooLarge, {"limit": 1000}, Table.of, unit)
                    continue
                seen += 1
                self.assertTrue(same(Table.of(unit).levels, tuple(levels)))
                self.assertTrue(same(Table.of(unit, depth=None).levels, tuple(levels)))
                for depth in (0, 1, 2, len(levels) - 1, len(levels), len(levels) + 3):
                    self.assertTrue(same(Table.of(unit, depth=depth).levels, tuple(levels[:depth])))

    def test_a_unit_without_items(self):
        table = Table.of(Unit(System.of_text(READY)))
        self.assertTrue(same(table.levels, ((((0,), (), ()),), (((1,), (), ()),), (((2,), (), ()),))))
        self.assertIs(table.fault(), None)
        # kinds count
        self.assertIs(((False,), (), ()) in table, False)
        self.assertEqual(Table(table.unit, [(((False,), (), ()),)]).fault(), ("start",))

    def test_moves_with_faults_count(self):
        unit = Unit.of_all(System.of_text(EARLY))
        self.assertEqual(Table.of(unit).levels, tuple(levels_told(unit)))
        self.assertEqual(Table.of(unit).fault()[0], "fault")

    def test_units_that_are_too_large(self):
        unit, = units_of(System.of_text(FULL))
        self.assertEqual(len(Table.of(unit)), 1000)
        for text in (OVER, VAST):
            system = System.of_text(text)
            for unit in (Unit.of_all(system), units_of(system)[0]):
                for depth in (None, 0, 1, 2, 100):
                    refused(self, TooLarge, {"limit": 1000}, Table.of, unit, depth=depth)
        # without the level behind a thousand states nothing is too large
        unit, = units_of(System.of_text(OVER))
        self.assertEqual(sum(len(level) for level in levels_of(unit, 1001)), 1001)


class Faults(unittest.TestCase):
    def check(self, unit, levels, depth=None):
        wanted = fault_told(unit, levels, depth)
        self.assertTrue(same(Table(unit, levels).fault(depth=depth), wanted), (levels, depth, wanted))
        self.assertTrue(same(Table(unit, tuple(levels)).fault(depth=depth), wanted))
        return wanted

    def test_form(self):
        unit, whole = ready(), levels_told(ready())
        for value in (*ODD_VALUES, START, list(whole[1])):
            wrong = not isinstance(value, tuple) or value == ()
            for k in range(6):
                levels = [*whole[:k], value, *whole[k:]]
                self.assertEqual(self.check(unit, levels) == ("form",), wrong)
        for depth, levels, wanted in ((None, [], ("form",)), (0, [], None), (1, [], ("form",)), (7, [], ("form",)),
                                      (0, whole[:1], ("form",)), (4, whole, ("form",)), (5, whole, None), (9, whole, None),
                                      (1, whole[:1], None), (1, whole[:2], ("form",)), (2, whole[:1], ("leads", 0, 0, ("device", "READY", 0))),
                                      # first the form, then what is listed twice
                                      (1, [(1, 1), (1,)], ("form",)), (2, [(1, 1), (1,)], ("twice", 0, 1)),
                                      (0, [(START,), ()], ("form",))):
            self.assertEqual(self.check(unit, levels, depth), wanted)

    def test_twice(self):
        unit, whole = ready(), levels_told(ready())
        for value in (*NO_STATES, START, RAISED, SECOND):
            for k in range(5):
                levels = [*whole[:k], (*whole[k], value, value), *whole[k + 1:], (value,)]
                wanted = self.check(unit, levels)
                self.assertEqual(wanted[0], "twice")
        self.assertEqual(self.check(unit, [(START, START)]), ("twice", 0, 1))
        self.assertEqual(self.check(unit, [(5, 6, True, 1), (7, 1), (5,)]), ("twice", 1, 1))
        # the first by level, then by index, ahead of a start that is not there
        self.assertEqual(self.check(unit, [(1,), (2, 3), (3, 2, 1)]), ("twice", 2, 0))
        self.assertEqual(Table(unit, [({"a": 1, "b": 2},), ({"b": 2, "a": 1},)]).fault(), ("twice", 1, 0))
        self.assertEqual(self.check(unit, [({"a": 1},), ({"a": True},)]), ("start",))

    def test_start(self):
        unit, whole = ready(), levels_told(ready())
        for value in NO_STATES:
            self.assertEqual(self.check(unit, [(value,), *whole[1:]]), ("start",))
            self.assertEqual(self.check(unit, [(value,), (START,), *whole[1:]]), ("start",))
            self.assertEqual(self.check(unit, [(value,)], 1), ("start",))
            self.assertEqual(self.check(unit, [(value, START), *whole[1:]]), ("idle", 0, 0))
        self.assertEqual(self.check(unit, [(RAISED,)]), ("start",))

    def test_fault(self):
        unit = Unit.of_all(System.of_text(EARLY))
        whole = levels_told(unit)
        wanted = self.check(unit, whole)
        self.assertEqual((wanted[0], wanted[3]), ("fault", ("step", "main")))
        # the bad runs have five moves
        for depth in range(len(whole) + 2):
            self.assertEqual(self.check(unit, whole[:depth], depth) is None, depth < 5)
        # a fault of a value stands ahead of what other values lead to, of an idle one and of later faults
        self.assertEqual(self.check(unit, [*whole, (1,)]), wanted)
        # a move that leads to what is not listed comes first, if it does
        self.assertEqual(self.check(unit, whole[:1])[0], "leads")

    def test_a_fault_and_what_it_leads_to(self):
        text = "width 8\nport S\nfield A 0 1 keep store still 1\nfield B 1 1 keep none drift 0\ntask t 0 0\nwrite S w 0"
        unit = Unit.of_all(System.of_text(text))
        start = unit.start
        # the deed comes first, then the step, which has a fault and leads to what is not listed
        self.assertEqual(self.check(unit, [(start,)]), ("leads", 0, 0, ("device", "B", 0)))
        self.assertEqual(self.check(unit, [(start,)], 1), ("fault", 0, 0, ("step", "t")))
        behind = unit.after(start, ("device", "B", 0))[0]
        self.assertEqual(self.check(unit, [(start,), (behind,)]), ("fault", 0, 0, ("step", "t")))

    def test_leads(self):
        unit, whole = ready(), levels_told(ready())
        self.assertEqual(self.check(unit, [(START,)]), ("leads", 0, 0, ("device", "READY", 0)))
        self.assertEqual(self.check(unit, [(START,), (RAISED,)]), ("leads", 0, 0, ("step", "main")))
        # in a later level than the next one
        self.assertEqual(self.check(unit, [(START,), (STEPPED,), (RAISED,)]), ("leads", 0, 0, ("device", "READY", 0)))
        # the levels may be in another order, if no move leads further than to the next one
        self.assertEqual(self.check(unit, [tuple(value for level in whole for value in level)]), None)
        self.assertEqual(self.check(unit, [level[::-1] for level in whole]), None)
        # with a depth it is not asked of the last level
        for depth in range(1, 7):
            self.assertIs(self.check(unit, whole[:depth], depth), None)
            self.assertEqual(self.check(unit, whole[:depth], depth + 1) is None, depth >= 5)
            self.assertEqual(self.check(unit, whole[:depth]) is None, depth >= 5)

    def test_idle(self):
        unit, whole = ready(), levels_told(ready())
        other = ((2,), ((1, 1), (1, 1)), (("READY", 0, 0),))
        self.assertEqual(self.check(unit, [*whole, (other,)]), ("idle", 5, 0))
        self.assertEqual(self.check(unit, [*whole, (9, other)]), ("idle", 5, 0))
        self.assertEqual(self.check(unit, [(*whole[0], 9), *whole[1:], (other,)]), ("idle", 0, 1))
        # a move that leads nowhere is told first
        self.assertEqual(self.check(unit, [(*whole[0], 9)]), ("leads", 0, 0, ("device", "READY", 0)))
        # what only an idle value leads to is idle, too: it is not followed
        self.assertEqual(self.check(unit, [*whole, (other,), (unit.after(other, ("step", "main"))[0],)])[0], "idle")
        for value in NO_STATES:
            self.assertEqual(self.check(unit, [*whole[:2], (*whole[2], value), *whole[3:]]), ("idle", 2, 3))
        # behind the last level of a depth nothing is followed but to what is listed
        self.assertEqual(self.check(unit, [whole[0], (*whole[1], *whole[3])], 2), ("idle", 1, 2))
        self.assertIs(self.check(unit, [whole[0], (*whole[1], *whole[2])], 2), None)

    def test_levels_have_no_fault(self):
        draw, seen = random.Random(71), 0
        while seen < 40:
            for unit in units_of(drawn_system(draw)):
                try:
                    levels, safe = levels_told(unit), is_safe(unit, 1000)
                except OverflowError:
                    continue
                seen += 1
                self.assertEqual(Table.of(unit).fault() is None, safe)
                if sum(len(level) for level in levels) < 60:
                    self.assertEqual(self.check(unit, levels) is None, safe)

    def test_drawn_tables(self):
        draw = random.Random(72)
        units = [ready(), Unit.of_all(System.of_text(EARLY)), units_of(System.of_text(BOTH))[0]]
        while len(units) < 40:
            for unit in units_of(drawn_system(draw)):
                try:
                    many = sum(len(level) for level in levels_of(unit, 30))
                except OverflowError:
                    continue
                if many > 3:
                    units.append(unit)
        found = set()
        for unit in units:
            for _ in range(25):
                levels = self.spoilt(draw, levels_told(unit))
                depth = draw.choice((None, None, len(levels), draw.randrange(5)))
                wanted = self.check(unit, levels, depth)
                found.add(wanted and wanted[0])
        self.assertEqual(found, {None, "form", "twice", "start", "fault", "leads", "idle"})

    def spoilt(self, draw, levels):
        """Levels of which some values are left out, moved or put in."""
        levels = [list(level) for level in levels]
        for _ in range(draw.randrange(4)):
            level = draw.choice(levels)
            sort = draw.randrange(6)
            if sort == 0 and level:
                level.pop(draw.randrange(len(level)))
            elif sort == 1:
                level.insert(draw.randint(0, len(level)), draw.choice(NO_STATES))
            elif sort == 2 and level:
                draw.choice(levels).append(level.pop())
            elif sort == 3:
                draw.shuffle(level)
            elif sort == 4:
                levels = levels[:draw.randint(1, len(levels))]
            elif level:
                places, entries, tokens = START if not isinstance(level[0], tuple) or len(level[0]) != 3 else level[0]
                level.append((places, entries[::-1] if isinstance(entries, tuple) else entries, tokens))
        return [tuple(level) for level in levels]


if __name__ == "__main__":
    unittest.main()
