import unittest
from itertools import combinations, product

from keptbits.blends import Blend
from keptbits.errors import InvalidTask
from keptbits.steps import Pair, Read, Serve, Step, Write
from keptbits.tasks import Task
from samples import ODD_VALUES, refused, same

NAMES = ("a", "main", "abcdefgh", "zzzzzzzz")
NO_NAMES = [value for value in (*ODD_VALUES, "A", "Main", "abcdefghi", "a1", "a_", "a b", 0, ["a"], ("a",))
            if not isinstance(value, str) or not (value.isalpha() and value.islower() and len(value) <= 8)]
STEPS = (Read("a", "S", "w"), Write("S", "w", Blend.constant(8, 1)), Serve("a", 1), Pair("a", "b", "H"),
         Write("S", "w", Blend(8), variable="q"), Read("b", "NONE", "h1", "A"))


def no_integers(most):
    return [value for value in (*ODD_VALUES, -1, most + 1, "0", [0], (0,)) if isinstance(value, bool)
            or not isinstance(value, int) or not 0 <= value <= most]


def wrong(test, name, reason, *steps, **more):
    """A task is refused, by both ways to make it."""
    attributes = {"name": name, "reason": reason}
    refused(test, InvalidTask, attributes, Task, name, *steps, **more)
    refused(test, InvalidTask, attributes, Task.of, name, list(steps), **more)


class Attributes(unittest.TestCase):
    def test_defaults(self):
        for name, size in product(NAMES, range(1, 7)):
            steps = STEPS[:size]
            for task in (Task(name, *steps), Task.of(name, steps), Task.of(steps=list(steps), name=name)):
                self.assertTrue(same((task.name, task.core, task.rank, task.holds), (name, 0, 0, ())))
                self.assertTrue(same(task.steps, steps))
                self.assertIs(task.__class__, Task)

    def test_cores_ranks_and_holds(self):
        for core, rank, size in product(range(4), range(10), range(1, 7)):
            task = Task("main", *STEPS[:size], core=core, rank=rank)
            self.assertTrue(same((task.core, task.rank), (core, rank)))
            task = Task.of("main", STEPS[:size], holds=(), rank=rank, core=core)
            self.assertTrue(same((task.core, task.rank, task.holds), (core, rank, ())))
        for size in range(1, 7):
            for many in range(size):
                for holds in combinations(range(1, size), many):
                    self.assertTrue(same(Task("main", *STEPS[:size], holds=holds).holds, holds))
        self.assertRaises(TypeError, Task.of, "main", STEPS, 0)

    def test_a_list_that_changes_later(self):
        steps = list(STEPS)
        task = Task.of("main", steps)
        steps.clear()
        self.assertEqual(task.steps, STEPS)

    def test_equality(self):
        def made():
            return [Task("a", *STEPS[:2]), Task("b", *STEPS[:2]), Task("a", STEPS[0]), Task("a", STEPS[1], STEPS[0]),
                    Task("a", *STEPS[:3]), Task("a", *STEPS[:2], core=1), Task("a", *STEPS[:2], rank=1),
                    Task("a", *STEPS[:2], holds=(1,)), Task("a", *STEPS[:3], holds=(1, 2)),
                    Task("a", *STEPS[:3], holds=(2,)), Task("a", Read("a", "S", "w"), Serve("a", 1))]

        for (at, one), (number, other) in product(enumerate(made()), enumerate(made())):
            self.assertIs(one == other, at == number)
            self.assertIs(one != other, at != number)
        for one, value in product(made(), (*ODD_VALUES, "a", STEPS, STEPS[0])):
            self.assertIs(one == value, False)
            self.assertIs(one != value, True)


class Refusals(unittest.TestCase):
    def test_names(self):
        for value in NO_NAMES:
            wrong(self, value, "name", *STEPS)

    def test_steps(self):
        wrong(self, "main", "steps")
        wrong(self, "main", "steps", *STEPS, STEPS[0])
        for value in (*ODD_VALUES, Step(), "read a S w", Task("a", STEPS[0]), [STEPS[0]], (STEPS[0],)):
            for steps in ((value,), (STEPS[0], value), (*STEPS[:5], value), (value, *STEPS)):
                wrong(self, "main", "steps", *steps)
        for value in ODD_VALUES:
            refused(self, InvalidTask, {"name": "main", "reason": "steps"}, Task.of, "main", value)
        refused(self, InvalidTask, {"name": "main", "reason": "steps"}, Task.of, "main", STEPS[0])

    def test_cores_and_ranks(self):
        for value in no_integers(3):
            wrong(self, "main", "core", *STEPS, core=value)
        for value in no_integers(9):
            wrong(self, "main", "rank", *STEPS, rank=value)

    def test_holds(self):
        for value in (*ODD_VALUES, (0,), (3,), (1, 1), (2, 1), (1, True), (True,), ("1",), [1], (1, 2, 3), (None, 1), 1):
            if value != ():
                wrong(self, "main", "holds", *STEPS[:3], holds=value)
        wrong(self, "main", "holds", STEPS[0], holds=(1,))
        for gap in (-1, 0, 6, 10 ** 59):
            wrong(self, "main", "holds", *STEPS, holds=(gap,))

    def test_the_first_of_two_is_told(self):
        wrongs = {"name": "A", "steps": [None], "core": 4, "rank": 10, "holds": [1]}
        good = {"name": "main", "steps": STEPS, "core": 0, "rank": 0, "holds": ()}
        for first, second in product(wrongs, repeat=2):
            told = min((first, second), key=list(wrongs).index)
            more = {**good, first: wrongs[first], second: wrongs[second]}
            refused(self, InvalidTask, {"name": more["name"], "reason": told}, Task.of, **more)


if __name__ == "__main__":
    unittest.main()
