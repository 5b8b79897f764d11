import random
import unittest

from drawn import drawn_system
from keptbits.errors import Exhausted, InvalidMost, NoName, NotEnabled, NothingToUndo, Stopped
from keptbits.machine import LoggedMachine, Machine, StoppedMachine, assign_most
from keptbits.systems import System
from keptbits.units import Unit
from samples import ODD_VALUES, refused, same
from test_moves import BOTH, EARLY, READY, moves_of
from test_units import NO_MOVES

CLASSES = (Machine, LoggedMachine, StoppedMachine)
EVENT = ("device", "READY", 0)
LOST = (("lost", "READY", 0),)
NO_MOST = [value for value in (*ODD_VALUES, 1000001, "1", [1], (1,), -1) if value is not None]
NO_NUMBERS = (*ODD_VALUES, 0, -1, "1", [1], (1,))


def told(machine):
    """All that a machine shows."""
    shown = [machine.state, machine.places, machine.done, machine.faults, machine.most, repr(machine),
             list(machine.moves())]
    return shown + [machine.log] if isinstance(machine, LoggedMachine) else shown


def early(made, words=""):
    return made.of(System.of_text(EARLY), moves_of(words))


class Moving(unittest.TestCase):
    def test_a_machine_at_its_start(self):
        system = System.of_text(EARLY)
        for made in CLASSES:
            for machine in (made(system), made(system=system), made.of(system, []), made.of(moves=(), system=system)):
                self.assertIs(machine.__class__, made)
                self.assertIs(machine.system, system)
                self.assertTrue(same((machine.state, machine.places, machine.done, machine.faults, machine.most),
                                     (Unit.of_all(system).start, (0,), 0, (), None)))
                self.assertTrue(same(list(machine.moves()), [EVENT, ("step", "main")]))
                self.assertEqual(repr(machine), f"{made.__name__}(0 moves, 0 faults)")

    def test_moves(self):
        for made in CLASSES:
            machine = early(made)
            for k, word in enumerate(("READY.0", "main", "main", "READY.0"), 1):
                self.assertTrue(same(machine.do(moves_of(word)[0]), ()))
                self.assertTrue(same((machine.done, machine.faults), (k, ())))
            self.assertTrue(same(machine.state, ((2,), ((1, 1), (1, 2)), (("READY", 0, 0), ("READY", 0, 1)))))
            self.assertTrue(same(machine.places, (2,)))
            self.assertTrue(same(list(machine.moves()), [("step", "main")]))
            self.assertTrue(same(machine.do(move=("step", "main")), LOST))
            self.assertTrue(same((machine.done, machine.faults, machine.places), (5, LOST, (0,))))
            self.assertEqual(repr(machine), f"{made.__name__}(5 moves, 1 faults)")
            self.assertEqual(machine, made.of(System.of_text(EARLY), list(moves_of("READY.0 main main READY.0 main"))))

    def test_drawn_runs(self):
        draw = random.Random(60)
        for _ in range(60):
            system = drawn_system(draw)
            unit, machine, logged = Unit.of_all(system), Machine(system), LoggedMachine(system)
            state, run = unit.start, []
            for _ in range(20):
                enabled = list(unit.moves(state))
                self.assertTrue(same([list(machine.moves()), list(logged.moves())], [enabled] * 2))
                if not enabled:
                    break
                run.append(draw.choice(enabled))
                state, faults = unit.after(state, run[-1])
                self.assertTrue(same([machine.do(run[-1]), logged.do(run[-1])], [faults] * 2))
                self.assertTrue(same([machine.state, machine.faults, machine.places, machine.done],
                                     [state, faults, state[0], len(run)]))
                self.check_values(machine, unit, state)
            self.assertTrue(same((logged.state, logged.log), (state, tuple(run))))

    def check_values(self, machine, unit, state):
        """The values of all fields are those of the bits in the state."""
        for field in machine.system.layout.fields:
            bits = [state[1][unit.members.index(("bit", field.name, i))][0] % 2 for i in range(field.size)]
            self.assertTrue(same(machine[field.name], sum(bit * 2 ** i for i, bit in enumerate(bits))))

    def test_values(self):
        text = """width 16
port S
field F 0 3 keep store still 5 commit C
field C 3 1 keep once still 1
field H 4 2 keep none drift 2 held C
key K 1
task a 0 0
write S w 2 means F C
write S w 8 means F C
read a S w"""
        machine = Machine(System.of_text(text))
        self.assertTrue(same([machine[name] for name in "FCH"], [5, 1, 2]))
        machine.do_all(("step", "a"), ("device", "H", 0))
        self.assertTrue(same([machine[name] for name in "FCH"], [5, 0, 3]))
        # the second write commits the back copies that it writes itself
        machine.do(("step", "a"))
        self.assertTrue(same([machine[name] for name in "FCH"], [0, 0, 3]))
        for name in "FCH":
            self.assertIs(name in machine, True)
        for value in (*ODD_VALUES, "S", "K", "a", "f", ["F"], ("F",), ("F", 0)):
            self.assertIs(value in machine, False)
            refused(self, NoName, {"name": value}, lambda at: machine[at], value)
        self.assertRaises(TypeError, iter, machine)

    def test_what_is_not_enabled(self):
        for made in CLASSES:
            machine = made.of(System.of_text(BOTH), moves_of("READY.0 main irq"))
            before = told(machine)
            for value in (*NO_MOVES, ("step", "main"), EVENT, ("step", "S")):
                refused(self, NotEnabled, {"move": value}, machine.do, value)
                if value != EVENT:
                    refused(self, NotEnabled, {"move": value}, machine.do_all, ("step", "irq"), value, None)
                refused(self, NotEnabled, {"move": value}, made.of, machine.system, [EVENT, *moves_of("main irq"), value])
                refused(self, NotEnabled, {"move": ("step", value)}, machine.play, "irq", value, None)
                self.assertTrue(same(told(machine), before))

    def test_a_list_that_changes_later(self):
        moves = [EVENT]
        machine = LoggedMachine.of(System.of_text(READY), moves)
        moves.append(EVENT)
        self.assertEqual(machine.log, (EVENT,))


class Rows(unittest.TestCase):
    def test_do_all(self):
        moves = moves_of("READY.0 main main READY.0 main")
        for made in CLASSES:
            machine = early(made)
            self.assertTrue(same(machine.do_all(), []))
            self.assertTrue(same(machine.do_all(*moves), [(), (), (), (), LOST]))
            self.assertEqual(machine, early(made, "READY.0 main main READY.0 main"))

    def test_do_all_or_none(self):
        for made in CLASSES:
            machine = early(made, "READY.0")
            before = told(machine)
            refused(self, NotEnabled, {"move": EVENT}, machine.do_all, *moves_of("main READY.0 main"))
            self.assertTrue(same(told(machine), before))
            machine.most = 3
            before = told(machine)
            refused(self, Exhausted, {"most": 3}, machine.do_all, *moves_of("main main main"))
            self.assertTrue(same(told(machine), before))
            self.assertEqual(len(machine.do_all(*moves_of("main main"))), 2)

    def test_play(self):
        for made in CLASSES:
            machine = early(made)
            self.assertTrue(same(machine.play(), []))
            self.assertTrue(same(machine.play("main", "main"), [(), ()]))
            self.assertEqual(machine, early(made, "main main"))
            seen = []

            def device(done):
                seen.append((done, machine.done, machine.places))
                return {2: (EVENT,), 4: ()}.get(done, ())

            self.assertTrue(same(machine.play("main", "main", device=device), [(), (), ()]))
            self.assertTrue(same(seen, [(2, 2, (2,)), (4, 4, (0,))]))
            self.assertEqual(machine, early(made, "main main READY.0 main main"))
            self.assertTrue(same(machine.play(device=lambda done: 1 // 0), []))
            self.assertTrue(same(machine.play("main", device=None), [()]))

    def test_the_faults_of_what_is_played(self):
        for made in (Machine, LoggedMachine):
            machine = early(made)
            rows = [(EVENT,), (), (EVENT,)]
            self.assertTrue(same(machine.play("main", "main", "main", device=lambda done: rows.pop(0)),
                                 [(), (), (), (), LOST]))
            self.assertEqual(machine, early(made, "READY.0 main main READY.0 main"))

    def test_play_or_not(self):
        for made in CLASSES:
            machine = early(made, "READY.0")
            before = told(machine)
            refused(self, NotEnabled, {"move": ("step", "x")}, machine.play, "main", "x")
            self.assertTrue(same(told(machine), before))
            hooks = {1: (), 2: ("x",)}
            refused(self, NotEnabled, {"move": "x"}, machine.play, "main", "main", device=lambda done: hooks[done])
            self.assertTrue(same(told(machine), before))
            hooks = {1: (), 2: (EVENT, ("step", "main"), EVENT)}
            refused(self, NotEnabled, {"move": EVENT}, machine.play, "main", "main", device=lambda done: hooks[done])
            self.assertTrue(same(told(machine), before))

    def test_a_hook_that_raises(self):
        for made, error in [(made, error) for made in CLASSES for error in (KeyError, ValueError, KeyboardInterrupt)]:
            machine = early(made, "READY.0")
            before = told(machine)

            def device(done):
                if done == 3:
                    machine.most = 9
                    raise error("told")
                return ()

            with self.assertRaises(error):
                machine.play("main", "main", "main", device=device)
            self.assertTrue(same(told(machine), before))


class Limits(unittest.TestCase):
    def test_the_greatest_number(self):
        for made in CLASSES:
            machine = early(made, "READY.0 main")
            for value in (2, 3, 1000000, None, 5, 4):
                if value != 5:
                    self.assertIs(assign_most(machine, value), None)
                else:
                    machine.most = value
                self.assertTrue(same(machine.most, value))
            machine.do_all(*moves_of("main main"))
            refused(self, Exhausted, {"most": 4}, machine.do, ("step", "main"))
            # first it is asked whether the move is enabled
            refused(self, NotEnabled, {"move": ("step", "x")}, machine.do, ("step", "x"))
            self.assertEqual((machine.done, machine.most), (4, 4))
            assign_most(value=None, machine=machine)
            machine.do(("step", "main"))
            self.assertEqual((machine.done, machine.most), (5, None))

    def test_no_such_numbers(self):
        for made in CLASSES:
            machine = early(made, "READY.0 main")
            for most in (None, 2, 7):
                machine.most = most
                before = told(machine)
                for value in (*NO_MOST, 0, 1, True):
                    refused(self, InvalidMost, {"value": value}, assign_most, machine, value)
                    refused(self, InvalidMost, {"value": value}, lambda number: setattr(machine, "most", number), value)
                    self.assertTrue(same(told(machine), before))


class Trials(unittest.TestCase):
    def test_twins(self):
        for made in CLASSES:
            machine = early(made, "READY.0 main")
            machine.most = 4
            other = machine.twin()
            self.assertIs(other.__class__, made)
            self.assertTrue(same(told(other), told(machine)))
            self.assertIs(other == machine, True)
            before = told(machine)
            other.do(("step", "main"))
            other.most = None
            self.assertTrue(same(told(machine), before))
            before = told(other)
            machine.do_all(*moves_of("main main"))
            machine.most = 9
            self.assertTrue(same(told(other), before))

    def test_trials(self):
        for made in CLASSES:
            machine = early(made, "READY.0")
            machine.most = 5
            before = told(machine)
            with machine.trial() as same_one:
                self.assertIs(same_one, machine)
                machine.do_all(*moves_of("main main"))
                machine.most = None
                if made is not Machine:
                    machine.back(2)
            self.assertTrue(same(told(machine), before))
            with self.assertRaises(KeyError):
                with machine.trial():
                    machine.do(("step", "main"))
                    raise KeyError("told")
            self.assertTrue(same(told(machine), before))

    def test_a_trial_begins_with_its_suite(self):
        machine = early(LoggedMachine)
        trial = machine.trial()
        machine.do(EVENT)
        with trial:
            machine.do(("step", "main"))
            with trial as inner:
                inner.do(("step", "main"))
                with machine.trial():
                    machine.do(("step", "main"))
                self.assertEqual(machine.done, 3)
            self.assertEqual(machine.done, 2)
        self.assertEqual(machine.done, 1)
        with trial:
            machine.do(("step", "main"))
        self.assertEqual(machine, early(LoggedMachine, "READY.0"))

    def test_tried(self):
        for made in CLASSES:
            machine = early(made, "READY.0")
            before = told(machine)
            seen = []

            def work(given):
                seen.append(given is machine)
                given.do_all(*moves_of("main main"))
                return given.done, given.places

            self.assertTrue(same(machine.tried(work), (3, (2,))))
            self.assertTrue(same(machine.tried(work=work), (3, (2,))))
            self.assertEqual(seen, [True, True])
            self.assertTrue(same(told(machine), before))
            refused(self, NotEnabled, {"move": EVENT}, machine.tried, lambda given: given.do_all(("step", "main"), EVENT))
            self.assertTrue(same(told(machine), before))


class Logs(unittest.TestCase):
    def test_logs(self):
        for made in CLASSES[1:]:
            words = "READY.0 main main READY.0 main"
            for k in range(6):
                run = moves_of(words)[:k]
                self.assertTrue(same(made.of(System.of_text(EARLY), run).log, run))

    def test_back(self):
        for made in CLASSES[1:]:
            words = "READY.0 main main READY.0 main".split()
            for size in range(1, 6):
                for number in range(1, size + 1):
                    machine = early(made, " ".join(words[:size]))
                    self.assertIs(machine.back(number) if number > 1 else machine.back(), None)
                    self.assertTrue(same(told(machine), told(early(made, " ".join(words[:size - number])))))
                    machine.do(moves_of(words[size - number])[0])
                    self.assertEqual(machine, early(made, " ".join(words[:size - number + 1])))

    def test_the_greatest_number_and_the_faults_stay(self):
        machine = early(LoggedMachine, "READY.0 main main READY.0 main main")
        self.assertEqual(machine.faults, ())
        machine.most = 8
        machine.back()
        self.assertTrue(same((machine.faults, machine.most, machine.done), (LOST, 8, 5)))
        machine.most = 5
        machine.back(number=3)
        self.assertTrue(same((machine.faults, machine.most, machine.done), ((), 5, 2)))
        machine.back(2)
        self.assertTrue(same((machine.faults, machine.most, machine.log), ((), 5, ())))

    def test_nothing_to_undo(self):
        for made in CLASSES[1:]:
            machine = early(made, "READY.0 main")
            before = told(machine)
            for value in (*NO_NUMBERS, 3):
                refused(self, NothingToUndo, {"number": value}, machine.back, value)
                self.assertTrue(same(told(machine), before))
            refused(self, NothingToUndo, {"number": 1}, early(made).back)

    def test_a_long_log(self):
        machine = LoggedMachine(System.of_text(READY))
        for _ in range(3000):
            machine.do(("step", "main"))
        self.assertEqual(machine.log, (("step", "main"),) * 3000)
        machine.back(2999)
        self.assertEqual(repr(machine), "LoggedMachine(1 moves, 0 faults)")


class Stops(unittest.TestCase):
    def test_no_move_behind_faults(self):
        words = "READY.0 main main READY.0 main"
        machine = early(StoppedMachine, words)
        before = told(machine)
        for move in (("step", "main"), EVENT, *NO_MOVES[:12]):
            refused(self, Stopped, {"last": LOST}, machine.do, move)
        machine.most = 5
        refused(self, Stopped, {"last": LOST}, machine.do, ("step", "main"))
        refused(self, Stopped, {"last": LOST}, machine.do_all, ("step", "main"))
        refused(self, Stopped, {"last": LOST}, machine.play, "main")
        refused(self, Stopped, {"last": LOST}, machine.play, "x", device=lambda done: (EVENT,))
        refused(self, Stopped, {"last": LOST}, StoppedMachine.of, machine.system, moves_of(words + " main"))
        machine.most = None
        self.assertTrue(same(told(machine), before))
        self.assertEqual(machine.do_all(), [])
        machine.back()
        self.assertEqual(machine, early(StoppedMachine, "READY.0 main main READY.0"))
        refused(self, Stopped, {"last": LOST}, machine.do_all, *moves_of("main main"))
        self.assertEqual(machine.done, 4)
        twin = early(StoppedMachine, words).twin()
        refused(self, Stopped, {"last": LOST}, twin.do, EVENT)


class Equality(unittest.TestCase):
    def test_equal_and_unequal(self):
        def made():
            held = System.of_text(READY.replace("main 0 0", "main 0 0 hold 1"))
            found = [made(System.of_text(READY)) for made in CLASSES] + [Machine(held), Machine(System.of_text(EARLY))]
            found += [early(each, words) for each in CLASSES[:2] for words in ("main", "READY.0", "main main")]
            limited = Machine(System.of_text(READY))
            limited.most = 3
            return [*found, limited]

        for at, one in enumerate(made()):
            for number, other in enumerate(made()):
                self.assertIs(one == other, at == number, (one, other))
                self.assertIs(one != other, at != number)
            for value in (*ODD_VALUES, one.system, one.state, repr(one)):
                self.assertIs(one == value, False)
                self.assertIs(one != value, True)

    def test_logs_and_faults_are_compared(self):
        system = System.of_text("width 8\nport S\nfield A 0 1 keep none drift 0\nfield B 1 1 keep none drift 0\n"
                                "task a 0 0\nread a S w")
        one, other = [("device", "A", 0), ("device", "B", 0)], [("device", "B", 0), ("device", "A", 0)]
        self.assertEqual(Machine.of(system, one), Machine.of(system, other))
        for made in CLASSES[1:]:
            self.assertNotEqual(made.of(system, one), made.of(system, other))
            self.assertEqual(made.of(system, one), made.of(system, tuple(one)))
        # the same state and number of moves, but other faults behind the last one
        system = System.of_text("width 8\nport S\nfield A 0 1 keep store drift 1\ntask a 0 0\nwrite S w 1")
        flip, step = ("device", "A", 0), ("step", "a")
        for made in CLASSES[:2]:
            quiet, moved = made.of(system, [flip, flip, step, step]), made.of(system, [step, step, flip, step])
            self.assertTrue(same((quiet.state, quiet.done), (moved.state, moved.done)))
            self.assertTrue(same((quiet.faults, moved.faults), ((), (("moved", "A", 0),))))
            self.assertNotEqual(quiet, moved)


if __name__ == "__main__":
    unittest.main()
