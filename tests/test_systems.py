import unittest
from itertools import combinations, product

from keptbits.blends import Blend
from keptbits.errors import InvalidSystem, NoName
from keptbits.fields import Field, KeyRegister, Register
from keptbits.maps import DeviceMap
from keptbits.steps import Pair, Read, Serve, Write
from keptbits.systems import System
from keptbits.tasks import Task
from samples import ODD_VALUES, refused, same

READ, SERVE = Read("a", "S", "w"), Serve("a", 1)
SET = Write("S", "w", Blend.constant(16, 1))


def layout(width=16):
    """A map with a field of each sort; F, G and L can be mirrors of each other in pairs."""
    return DeviceMap(
        width,
        Register("S", Field("F", 0, 2, reset=1), Field("G", 2, 2, reset=1), Field("L", 4, 1)),
        KeyRegister("K", 1, 2),
        Register("T", Field("H", 0, 3, writing="none", held="M"), Field("M", 3, 1, device="drift"),
                 Field("E", 5, 2, device="raise"), Field("N", 7, 1), whole=True),
    )


def task(name, *steps, **more):
    return Task(name, *(steps or (READ,)), **more)


def wrong(test, attributes, *arguments, **more):
    """A system is refused, by both ways to make it; `attributes` is (name, index, reason)."""
    told = dict(zip(("name", "index", "reason"), attributes))
    refused(test, InvalidSystem, told, System, *arguments, **more)
    refused(test, InvalidSystem, told, System.of, arguments[0], list(arguments[1:]), **more)


def wrong_step(test, reason, *steps, width=16):
    """The last one of some steps is wrong, in a task alone and in one behind another task."""
    wrong(test, ("x", len(steps) - 1, reason), layout(width), Task("x", *steps))
    wrong(test, ("x", len(steps) - 1, reason), layout(width), task("y"), Task("x", *steps), Task("z", Serve("a", 1)))
    System(layout(width), Task("x", *(steps[:-1] or (READ,))))


class Attributes(unittest.TestCase):
    def test_attributes(self):
        tasks = (task("b", READ, SERVE, SERVE), task("a", SET), task("c", READ, SERVE, holds=(1,)))
        mirrors = (("F", "G"), ("L", "N"), ("F", "G"))
        for many, size in product((1, 2, 3), range(4)):
            for system in (System(layout(), *tasks[:many], mirrors=mirrors[:size]),
                           System.of(layout(), list(tasks[:many]), mirrors=mirrors[:size]),
                           System.of(mirrors=mirrors[:size], tasks=tasks[:many], layout=layout())):
                self.assertEqual(system.layout, layout())
                self.assertTrue(same(system.tasks, tasks[:many]))
                self.assertTrue(same(system.mirrors, mirrors[:size]))
                self.assertTrue(same(system.gaps, (("b", 1), ("b", 2))))
                self.assertIs(system.__class__, System)
        self.assertTrue(same(System(layout(), tasks[0]).mirrors, ()))
        self.assertRaises(TypeError, System.of, layout(), tasks, ())

    def test_gaps(self):
        steps = (READ, SERVE, SERVE, SET)
        for many in range(4):
            for holds in combinations((1, 2, 3), many):
                system = System(layout(), task("b", *steps, holds=holds), task("a", *steps))
                wanted = [("b", k) for k in (1, 2, 3) if k not in holds] + [("a", 1), ("a", 2), ("a", 3)]
                self.assertTrue(same(system.gaps, tuple(wanted)))

    def test_names_and_iteration(self):
        tasks = [task("b"), task("a", SET), task("main", READ, SERVE)]
        system = System(layout(), *tasks)
        for each in tasks:
            self.assertIs(system[each.name], each)
            self.assertIs(each.name in system, True)
        self.assertTrue(all(one is other for one, other in zip(system, tasks)))
        self.assertEqual(list(system), tasks)
        for value in (*ODD_VALUES, "c", "S", "A", ["a"], ("a",), 0):
            if value == "b":
                continue
            self.assertIs(value in system, False)
            refused(self, NoName, {"name": value}, lambda at: system[at], value)

    def test_text_of_objects(self):
        self.assertEqual(repr(System(layout(), task("a"))), "System(1 tasks, 1 steps)")
        self.assertEqual(repr(System(layout(), task("a"), task("b", READ, SERVE, SET, SET))), "System(2 tasks, 5 steps)")

    def test_equality(self):
        def made():
            return [System(layout(), task("a")), System(layout(32), task("a")), System(layout(), task("b")),
                    System(layout(), task("a"), task("b")), System(layout(), task("b"), task("a")),
                    System(layout(), task("a"), mirrors=(("F", "G"),)), System(layout(), task("a"), mirrors=(("G", "F"),)),
                    System(layout(), task("a", READ, SERVE)), System(layout(), task("a", READ, SERVE, holds=(1,))),
                    System(layout(), task("a", core=1)), System(layout(), task("a", rank=1))]

        for (at, one), (number, other) in product(enumerate(made()), enumerate(made())):
            self.assertIs(one == other, at == number)
            self.assertIs(one != other, at != number)
        for one, value in product(made(), (*ODD_VALUES, layout(), task("a"), str(made()[0]))):
            self.assertIs(one == value, False)
            self.assertIs(one != value, True)

    def test_a_list_that_changes_later(self):
        tasks = [task("a"), task("b")]
        system = System.of(layout(), tasks)
        tasks.pop()
        self.assertEqual(system, System(layout(), task("a"), task("b")))


class Parts(unittest.TestCase):
    def test_no_maps(self):
        for value in (*ODD_VALUES, 16, Register("S"), System(layout(), task("a"))):
            wrong(self, ("", 0, "layout"), value, task("a"))
            wrong(self, ("", 0, "layout"), value)
            wrong(self, ("", 0, "layout"), value, None, mirrors=None)

    def test_no_tasks(self):
        wrong(self, ("", 0, "tasks"), layout())
        wrong(self, ("", 0, "tasks"), layout(), mirrors=None)
        for value in (*ODD_VALUES, "a", READ, [task("a")], (task("a"),), layout()):
            wrong(self, ("", 0, "tasks"), layout(), value)
            wrong(self, ("", 1, "tasks"), layout(), task("a"), value, None)
            wrong(self, ("", 2, "tasks"), layout(), task("a"), task("a"), value, task("b"), task("c"))
            if not isinstance(value, (list, tuple)):
                refused(self, InvalidSystem, {"name": "", "index": 0, "reason": "tasks"}, System.of, layout(), value)
        wrong(self, ("", 3, "tasks"), layout(), *[task(name) for name in "abcd"])
        wrong(self, ("", 3, "tasks"), layout(), *[task("a")] * 4, None)

    def test_names(self):
        wrong(self, ("a", 0, "name"), layout(), task("a"), task("a"))
        wrong(self, ("b", 0, "name"), layout(), task("a"), task("b"), task("b"))
        wrong(self, ("a", 0, "name"), layout(), task("a", SERVE), task("b"), task("a"), mirrors=None)

    def test_mirrors(self):
        for value in (*ODD_VALUES, [("F", "G")], {"F": "G"}, "FG"):
            if not isinstance(value, tuple):
                wrong(self, ("", 0, "mirrors"), layout(), task("a"), mirrors=value)
        good = ("F", "G")
        for value in (*ODD_VALUES, "FG", ["F", "G"], ("F", "G", "F"), ("F",), ("F", "F"), ("F", "L"), ("L", "F"),
                      ("F", "S"), ("S", "T"), ("K", "K"), ("F", "E"), ("E", "F"), ("M", "L"), ("N", "M"), ("F", None),
                      ("F", ["G"]), ("NONE", "G"), {"F": "G"}, ("H", "F")):
            wrong(self, ("", 0, "mirrors"), layout(), task("a"), mirrors=(value,))
            wrong(self, ("", 2, "mirrors"), layout(), task("a"), mirrors=(good, good, value, None))
        wrong(self, ("", 3, "mirrors"), layout(), task("a"), mirrors=(good,) * 4)
        wrong(self, ("", 3, "mirrors"), layout(), task("a"), mirrors=(good,) * 5)

    def test_fields_that_are_mirrors(self):
        fields = (Field("A", 0, 2, reset=2), Field("B", 2, 2, reset=2, commit="C"), Field("C", 4, 1),
                  Field("D", 5, 2, reset=2, writing="none", held="A"), Field("X", 7, 2, reset=1),
                  Field("Y", 9, 2, reset=2, device="end"), Field("Z", 11, 2, reset=2, reading="take", writing="once"),
                  Field("W", 13, 3, reset=2))
        wide = DeviceMap(16, Register("S", *fields))
        right = {"A": "BDZ", "B": "ADZ", "D": "ABZ", "Z": "ABD"}
        for one, other in product("ABCDWXYZ", repeat=2):
            if other in right.get(one, ""):
                self.assertEqual(System(wide, task("a"), mirrors=((one, other),)).mirrors, ((one, other),))
            else:
                wrong(self, ("", 0, "mirrors"), wide, task("a"), mirrors=((one, other),))


class Steps(unittest.TestCase):
    def test_too_many(self):
        six = [SET] * 6
        System(layout(), Task("a", *six), Task("b", *six[:4]))
        wrong(self, ("b", 4, "steps"), layout(), Task("a", *six), Task("b", *six))
        wrong(self, ("c", 0, "steps"), layout(), Task("a", *six), Task("b", *six[:4]), Task("c", SERVE))
        wrong(self, ("b", 5, "steps"), layout(), Task("a", *six[:5]), Task("b", *six[:5], SERVE), Task("c", SERVE))
        # a wrong step ahead is told first
        wrong(self, ("b", 3, "loaded"), layout(), Task("a", *six), Task("b", *six[:3], SERVE, SET))

    def test_ports_and_lanes(self):
        for port in ("NONE", "F", "H"):
            wrong_step(self, "port", Read("a", port, "h0", "NONE"))
            wrong_step(self, "port", SET, Write(port, "h0", Blend(8), "NONE", variable="a"))
        for width, lanes in ((8, ("b0", "b1", "h0")), (16, ("b2", "b3", "h0", "h1")), (32, ())):
            for lane in lanes:
                for port in ("S", "K"):
                    wrong_step(self, "lane", Read("a", port, lane, "NONE"), width=width)
                    wrong_step(self, "lane", Write(port, lane, Blend(32), "NONE", variable="a"), width=width)
        for lane in ("w", "b0", "b1", "b2", "b3", "h0", "h1"):
            for port in "STK":
                System(layout(32), Task("a", Read("a", port, lane)))

    def test_keys(self):
        for lane in ("b0", "b1"):
            wrong_step(self, "key", Write("K", lane, Blend.constant(8, 1), "NONE"))
        wrong_step(self, "key", READ, Write("K", "w", Blend(8), "NONE", variable="a"))
        wrong_step(self, "key", Write("K", "w", Blend(16), variable="b"))
        for number in (0, 1, 65535):
            System(layout(), Task("a", Write("K", "w", Blend.constant(16, number), "F")))

    def test_blends(self):
        for width in (8, 32):
            wrong_step(self, "blend", Write("S", "w", Blend.constant(width, 1), "NONE"))
            wrong_step(self, "blend", Write("K", "w", Blend.constant(width, 1), "NONE"))
            wrong_step(self, "blend", READ, Write("S", "b0", Blend(width) & 1, "NONE", variable="b"))
        for width, lane, size in ((16, "b0", 8), (16, "b1", 8), (32, "b3", 8), (32, "h0", 16), (32, "h1", 16)):
            full = 2 ** size - 1
            fits = (Blend.constant(width, full), Blend(width) & full, (Blend(width) & full) ^ full)
            leaves = (Blend.constant(width, full + 1), Blend(width) & (full + 1), (Blend(width) & 1) ^ (full + 1),
                      Blend(width), Blend(width) & 2 * full)
            for blend in fits:
                step = Write("S", lane, blend, variable=None if blend.is_constant else "a")
                System(layout(width), Task("x", READ, step))
            for blend in leaves:
                step = Write("S", lane, blend, "NONE", variable=None if blend.is_constant else "a")
                wrong_step(self, "blend", READ, step, width=width)

    def test_masks(self):
        for width in (8, 16):
            System(layout(width), Task("x", READ, Serve("a", 2 ** width - 1)))
            wrong_step(self, "mask", READ, Serve("a", 2 ** width), width=width)
            wrong_step(self, "mask", READ, Serve("b", 2 ** 32 - 1), width=width)
        System(layout(32), Task("x", READ, Serve("a", 2 ** 32 - 1)))

    def test_means(self):
        for name in ("NONE", "S", "T", "K"):
            for means in ((name,), ("F", name), ("Z", "F")):
                wrong_step(self, "means", Read("a", "S", "w", *means))
                wrong_step(self, "means", Write("K", "w", Blend.constant(16, 1), *means))
                wrong_step(self, "means", Write("S", "w", Blend(16), *means, variable="a"))
        System(layout(), Task("x", Read("a", "S", "w", "M", "H", "F")))

    def test_variables(self):
        reads = [Read(name, "S", "w") for name in "abc"]
        System(layout(), Task("x", reads[2], reads[0], reads[2], reads[0]))
        wrong_step(self, "variables", *reads)
        wrong_step(self, "variables", reads[0], SERVE, reads[1], reads[0], Read("c", "T", "b0"))
        wrong_step(self, "means", *reads[:2], Read("c", "S", "w", "NONE"))
        System(layout(), Task("x", *reads[:2]), Task("y", *reads[1:]))

    def test_loaded(self):
        copy = Write("S", "w", Blend(16), variable="b")
        for step in (Serve("b", 1), copy, Pair("a", "b", "F"), Pair("b", "a", "NONE")):
            wrong_step(self, "loaded", step)
            wrong_step(self, "loaded", READ, step)
            wrong(self, ("x", 1, "loaded"), layout(), Task("x", READ, step, Read("b", "S", "w")))
            # another task's variables do not count
            wrong(self, ("x", 1, "loaded"), layout(), Task("y", Read("b", "S", "w")), Task("x", READ, step))
        System(layout(), Task("x", Read("b", "K", "b1"), copy, Serve("b", 1)))

    def test_pairs(self):
        held, holding, neither = Read("b", "T", "w"), Read("a", "T", "b0"), Read("a", "S", "w")
        System(layout(), Task("x", holding, held, Pair("a", "b", "H")))
        for field in ("F", "M", "E", "T", "NONE"):
            wrong_step(self, "pair", holding, held, Pair("a", "b", field))
        wrong_step(self, "pair", neither, held, Pair("a", "b", "H"))
        wrong_step(self, "pair", holding, Read("b", "T", "b1"), Pair("a", "b", "H"))
        wrong_step(self, "pair", holding, held, neither, Pair("a", "b", "H"))
        System(layout(), Task("x", neither, held, holding, Pair("a", "b", "H"), neither))
        # the fields in registers of their own
        apart = DeviceMap(8, Register("S", Field("H", 0, 1, writing="none", held="G")), Register("T", Field("G", 0, 1)))
        reads = [Read("a", "T", "w"), Read("b", "S", "w")]
        System(apart, Task("x", *reads, Pair("a", "b", "H")))
        wrong(self, ("x", 2, "pair"), apart, Task("x", *reads, Pair("b", "a", "H")))

    def test_the_first_step_is_told(self):
        bad = Read("a", "NONE", "w")
        wrong(self, ("x", 0, "loaded"), layout(), Task("x", SERVE, bad), Task("y", bad))
        wrong(self, ("y", 1, "port"), layout(), task("x"), Task("y", READ, bad, SERVE), mirrors=None)

    def test_the_first_reason_is_told(self):
        # each row: a step for which this reason and all later ones hold that can
        rows = (
            ("port", Write("NONE", "h0", Blend(8), "NONE", variable="b")),
            ("lane", Write("K", "h0", Blend(8), "NONE", variable="b")),
            ("key", Write("K", "b0", Blend(8), "NONE", variable="b")),
            ("blend", Write("S", "w", Blend(8), "NONE", variable="b")),
            ("means", Write("S", "w", Blend(16), "NONE", variable="b")),
            ("loaded", Write("S", "w", Blend(16), variable="b")),
            ("mask", Serve("b", 2 ** 16)),
            ("loaded", Serve("b", 1)),
            ("loaded", Pair("b", "a", "NONE")),
        )
        for reason, step in rows:
            wrong_step(self, reason, READ, step)
        reads = [Read("b", "S", "w"), READ]
        for reason, step in (("port", Read("c", "NONE", "h0", "NONE")), ("lane", Read("c", "S", "h0", "NONE")),
                             ("means", Read("c", "S", "w", "NONE")), ("variables", Read("c", "S", "w"))):
            wrong_step(self, reason, *reads, step)


class Holds(unittest.TestCase):
    def system(self):
        return System(layout(), Task("b", READ, SERVE, SERVE, holds=(2,)), Task("a", READ, SET, core=1, rank=2),
                      task("c"), mirrors=(("F", "G"),))

    def test_with_holds(self):
        system = self.system()
        before = str(system)
        for gaps, wanted in (((), ((2,), ())), ((("b", 1),), ((1, 2), ())), ((("a", 1), ("b", 2)), ((2,), (1,))),
                             ((("b", 1), ("a", 1), ("b", 1)), ((1, 2), (1,)))):
            held = system.with_holds(*gaps)
            self.assertTrue(same(tuple(each.holds for each in held), (*wanted, ())))
            self.assertEqual(held, System(layout(), Task("b", READ, SERVE, SERVE, holds=wanted[0]),
                                          Task("a", READ, SET, core=1, rank=2, holds=wanted[1]), task("c"),
                                          mirrors=(("F", "G"),)))
            self.assertEqual(str(system), before)
        self.assertTrue(same(system.with_holds(("b", 1)).gaps, (("a", 1),)))

    def test_no_gaps(self):
        system = self.system()
        for value in (*ODD_VALUES, ("b", 0), ("b", 3), ("a", 2), ("c", 1), ("x", 1), ("b", True), ["b", 1], ("b", 1, 1),
                      ("b",), ("b", "1"), ("S", 1), "b", (("b", 1),)):
            for index, gaps in ((0, (value,)), (0, (value, ("b", 1), None)), (2, (("b", 1), ("a", 1), value, ("b", 9)))):
                refused(self, InvalidSystem, {"name": "", "index": index, "reason": "gap"}, system.with_holds, *gaps)
        self.assertEqual(system, self.system())

    def test_without(self):
        system = self.system()
        for name, left in (("a", "bc"), ("b", "ac"), ("c", "ba")):
            other = system.without(name=name)
            self.assertEqual(other, System.of(layout(), [system[each] for each in left], mirrors=(("F", "G"),)))
        self.assertEqual(system, self.system())
        for value in (*ODD_VALUES, "x", "S", ["a"]):
            if value != "b":
                refused(self, NoName, {"name": value}, system.without, value)
        alone = System(layout(), task("a"))
        refused(self, InvalidSystem, {"name": "", "index": 0, "reason": "tasks"}, alone.without, "a")
        refused(self, NoName, {"name": "b"}, alone.without, "b")


if __name__ == "__main__":
    unittest.main()
