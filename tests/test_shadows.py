import random
import unittest

from keptbits.blends import Blend
from keptbits.errors import InvalidLane, InvalidWord, NoName, NoShadow
from keptbits.fields import Field, KeyRegister, Register
from keptbits.holds import fewest_holds, safe_with
from keptbits.judge import judge
from keptbits.maps import DeviceMap
from keptbits.rewrites import narrowest_lane, set_by_reading
from keptbits.shadows import needed_gaps, set_by_shadow, setting_tasks, shadow_mirrors
from keptbits.steps import Read, Write
from keptbits.systems import System
from keptbits.tasks import Task
from keptbits.words import lane_span
from samples import ODD_VALUES, refused, same
from test_holds import choices_told

FIELDS = (Field("A", 0, 2, reading="take", reset=2), Field("B", 8, 4, writing="store", reset=7), Field("C", 2, 2, writing="flip1"))
COPIES = (Field("AA", 0, 2, reset=2), Field("BB", 8, 4, reset=7), Field("CC", 2, 2))
LAYOUT = DeviceMap(16, Register("R", *FIELDS[:2]), Register("S", *COPIES[:2]), Register("V", whole=True), KeyRegister("K", 1))
NO_PORTS = (*ODD_VALUES, "A", "BB", "X", "r", ["R"], ("R",), ("R", "w"))


class Mirrors(unittest.TestCase):
    def test_mirrors(self):
        self.assertTrue(same(shadow_mirrors(LAYOUT, "R", "S"), (("A", "AA"), ("B", "BB"))))
        self.assertTrue(same(shadow_mirrors(port="R", other="S", layout=LAYOUT), (("A", "AA"), ("B", "BB"))))
        # fields are paired as they were passed, and registers without fields have no pairs
        layout = DeviceMap(16, Register("R", FIELDS[2], FIELDS[0]), Register("S", COPIES[2], COPIES[0]), Register("T"), Register("U"))
        self.assertTrue(same(shadow_mirrors(layout, "R", "S"), (("C", "CC"), ("A", "AA"))))
        self.assertTrue(same(shadow_mirrors(layout, "T", "U"), ()))
        whole = [Register(name, *fields, whole=True) for name, fields in (("R", FIELDS[:1]), ("S", COPIES[:1]))]
        self.assertTrue(same(shadow_mirrors(DeviceMap(16, *whole), "R", "S"), (("A", "AA"),)))

    def test_no_names(self):
        for value in NO_PORTS:
            refused(self, NoName, {"name": value}, shadow_mirrors, LAYOUT, value, "S")
            refused(self, NoName, {"name": value}, shadow_mirrors, LAYOUT, value, None)
            refused(self, NoName, {"name": value}, shadow_mirrors, LAYOUT, "R", value)

    def test_no_shadows(self):
        told = {"name": "R", "other": "S"}
        other = Register("S", *COPIES[:2])
        for home in (FIELDS[:1], FIELDS, (FIELDS[1], FIELDS[0]), (FIELDS[0], Field("B", 7, 4, reset=7)),
                     (FIELDS[0], Field("B", 8, 3, reset=7)), (FIELDS[0], Field("B", 8, 4, reset=6)), ()):
            refused(self, NoShadow, told, shadow_mirrors, DeviceMap(16, Register("R", *home), other), "R", "S")
        for wrong in ({"reading": "take"}, {"writing": "once"}, {"writing": "none"}, {"device": "drift"}, {"device": "end"},
                      {"lock": "A"}, {"lock": "L"}, {"key": "K"}, {"commit": "L"}, {"writing": "none", "held": "L"}):
            layout = DeviceMap(16, Register("R", Field("A", 0, 1)), Register("S", Field("AA", 0, 1, **wrong)),
                               Register("T", Field("L", 0, 1)), KeyRegister("K", 1))
            refused(self, NoShadow, told, shadow_mirrors, layout, "R", "S")
            # the register itself may have such fields
            layout = DeviceMap(16, Register("R", Field("A", 0, 1, **{**wrong, "lock": wrong.get("lock") and "L"})),
                               Register("S", Field("AA", 0, 1)), Register("T", Field("L", 0, 1)), KeyRegister("K", 1))
            self.assertTrue(same(shadow_mirrors(layout, "R", "S"), (("A", "AA"),)))
        for layout, names in ((LAYOUT, ("R", "R")), (LAYOUT, ("S", "S")), (LAYOUT, ("R", "V")), (LAYOUT, ("R", "K")), (LAYOUT, ("K", "S")), (LAYOUT, ("K", "K")),
                              (LAYOUT, ("S", "R")), (DeviceMap(8, KeyRegister("K", 1), KeyRegister("J", 1), Register("T")), ("K", "J")),
                              (DeviceMap(8, KeyRegister("K", 1), Register("T")), ("T", "K")),
                              (DeviceMap(8, KeyRegister("K", 1), Register("T")), ("K", "T")),
                              (DeviceMap(8, Register("T", whole=True), Register("U")), ("T", "U")),
                              (DeviceMap(8, Register("T", whole=True), Register("U")), ("U", "T"))):
            refused(self, NoShadow, {"name": names[0], "other": names[1]}, shadow_mirrors, layout, *names)


class Setting(unittest.TestCase):
    def test_steps(self):
        blend = Blend(16, 0, 252, 1)
        self.assertEqual(set_by_shadow(LAYOUT, "A", "S", 1), (
            Read("a", "S", "b0", "AA"), Write("R", "b0", blend, "A", variable="a"), Write("S", "b0", blend, "AA", variable="a")))
        self.assertEqual(set_by_shadow(value=1, other="S", name="A", layout=LAYOUT, variable="c", lane="w"), (
            Read("c", "S", "w", "AA"), Write("R", "w", (Blend(16) & 65532) | 1, "A", variable="c"),
            Write("S", "w", (Blend(16) & 65532) | 1, "AA", variable="c")))
        # a field with all bits of the lane
        blend = Blend.constant(16, 200)
        layout = DeviceMap(16, Register("R", Field("B", 8, 8)), Register("S", Field("BB", 8, 8)))
        self.assertEqual(set_by_shadow(layout, "B", "S", 200), (
            Read("a", "S", "b1", "BB"), Write("R", "b1", blend, "B"), Write("S", "b1", blend, "BB")))

    def test_errors(self):
        for name in (*ODD_VALUES, "R", "K", "X", ["A"]):
            refused(self, NoName, {"name": name}, set_by_shadow, LAYOUT, name, None, None, lane="x")
        for lane in (*[value for value in ODD_VALUES if value is not None], "b1", "h0", "b2", ["w"]):
            refused(self, InvalidLane, {"value": lane}, set_by_shadow, LAYOUT, "A", None, 9, lane=lane)
        for value in (*ODD_VALUES, 4, -1):
            refused(self, InvalidWord, {"value": value}, set_by_shadow, LAYOUT, "A", None, value)
        for other in NO_PORTS:
            refused(self, NoName, {"name": other}, set_by_shadow, LAYOUT, "A", other, 3)
        for other in ("R", "V", "K"):
            refused(self, NoShadow, {"name": "R", "other": other}, set_by_shadow, LAYOUT, "A", other, 3)
        refused(self, NoShadow, {"name": "S", "other": "R"}, set_by_shadow, LAYOUT, "AA", "R", 3)

    def test_one_task_alone_is_safe(self):
        draw, found = random.Random(130), set()
        for _ in range(60):
            low, fields = 0, []
            for name in "ABC"[:draw.randint(1, 3)]:
                size = draw.randint(1, 2)
                fields.append((name, low, size, draw.getrandbits(size)))
                low += size + draw.choice((0, 1, 5))
            draw.shuffle(fields)
            whole = draw.random() < 0.5
            ports = [Register("R", *[Field(name, low, size, reset=reset, reading=draw.choice(("keep", "take")))
                                     for name, low, size, reset in fields], whole=whole),
                     Register("S", *[Field(name * 2, low, size, reset=reset) for name, low, size, reset in fields], whole=whole)]
            layout = DeviceMap(16, *ports)
            name, low, size, reset = draw.choice(fields)
            value = draw.getrandbits(size)
            mirrors = shadow_mirrors(layout, "R", "S")
            task = Task.of("t", set_by_shadow(layout, name, "S", value))
            system = System(layout, task, mirrors=mirrors)
            self.assertIs(judge(system).is_safe, True)
            found.add((len(fields), whole))
            # without the last step the shadow no longer mirrors the field
            if value != reset:
                short = System(layout, Task.of("t", task.steps[:2]), mirrors=mirrors)
                self.assertIn("parted", [fault[0] for fault in judge(short).faults])
        self.assertEqual(len(found), 6)


class Gaps(unittest.TestCase):
    def layout(self):
        return DeviceMap(16, Register("R", Field("A", 0, 2), Field("B", 2, 2, reset=1), Field("C", 8, 8), Field("D", 6, 1)),
                         Register("S", Field("E", 0, 3)))

    def test_tasks(self):
        layout = self.layout()
        self.assertEqual(setting_tasks(layout), ())
        tasks = setting_tasks(layout, ("main", "A", 3, 0, 1), ("irq", "C", 255, 2, 9))
        self.assertEqual(tasks, (Task.of("main", set_by_reading(layout, "A", 3), core=0, rank=1),
                                 Task.of("irq", set_by_reading(layout, "C", 255), core=2, rank=9)))
        self.assertIs(tasks.__class__, tuple)

    def test_needed_gaps(self):
        layout = self.layout()
        a, b, c = ("main", "A", 3, 0, 0), ("irq", "B", 2, 0, 1), ("tick", "C", 9, 1, 0)
        for settings, wanted in (((), ()), ((a,), ()), ((a, b), ("main",)), ((b, a), ("main",)),
                                 # nothing is in another lane or another register
                                 ((a, c), ()), ((a, ("irq", "E", 1, 1, 1)), ()),
                                 # the same or a lower rank of one core cannot break in; another core can
                                 ((a, ("irq", "B", 2, 0, 0)), ()), ((a, ("irq", "B", 2, 1, 0)), ("irq", "main")),
                                 # a task that sets the same field does no harm, nor one that sets what is there already
                                 ((a, ("irq", "A", 1, 0, 1)), ()), ((a, ("irq", "B", 1, 0, 1)), ()),
                                 # but a third one can set another value ahead of it
                                 ((a, ("irq", "B", 1, 0, 1), ("tick", "B", 2, 0, 0)), ("main",)),
                                 ((("tick", "A", 0, 0, 0), ("irq", "B", 1, 0, 1), ("main", "B", 2, 0, 0)), ("tick",)),
                                 ((c, a, b, ("d", "D", 1, 3, 3)), ("d", "irq", "main"))):
            self.assertTrue(same(needed_gaps(layout, *settings), tuple((name, 1) for name in wanted)), settings)

    def test_parts_of_a_field_in_a_lane(self):
        layout = DeviceMap(16, Register("R", Field("A", 0, 2), Field("B", 6, 4)))
        a = ("main", "A", 3, 0, 0)
        # of B just the lower two bits are in the lane of A
        self.assertEqual(needed_gaps(layout, a, ("irq", "B", 4, 0, 1)), ())
        self.assertEqual(needed_gaps(layout, a, ("irq", "B", 5, 0, 1)), (("main", 1),))
        self.assertEqual(needed_gaps(layout, ("main", "B", 4, 0, 0), ("irq", "A", 1, 0, 1)), (("main", 1),))
        # in the upper lane
        layout = DeviceMap(16, Register("R", Field("A", 10, 2), Field("B", 6, 4)))
        self.assertEqual(needed_gaps(layout, a, ("irq", "B", 3, 0, 1)), ())
        self.assertEqual(needed_gaps(layout, a, ("irq", "B", 4, 0, 1)), (("main", 1),))

    def test_they_are_the_only_smallest_set(self):
        draw, found = random.Random(131), set()
        for _ in range(150):
            fields, low = [], 0
            for name in "ABCD"[:draw.randint(2, 4)]:
                size = draw.randint(1, 2)
                fields.append(Field(name, low, size, reset=draw.getrandbits(size)))
                low += size + draw.choice((0, 0, 2))
            cut = draw.choice((len(fields), len(fields), 1))
            layout = DeviceMap(16, Register("R", *fields[:cut]), *[Register("S", *fields[cut:])] * (cut < len(fields)))
            settings = []
            for name in draw.sample(("main", "irq", "tick"), draw.randint(2, 3)):
                field = draw.choice(fields)
                settings.append((name, field.name, draw.getrandbits(field.size), draw.randrange(2), draw.randrange(3)))
            system = System(layout, *setting_tasks(layout, *settings))
            gaps = needed_gaps(layout, *settings)
            answer = fewest_holds(system)
            self.assertTrue(same(answer.chosen, gaps), (settings, gaps))
            for chosen in choices_told(system, len(gaps)):
                self.assertEqual(safe_with(system, *chosen), chosen == gaps)
            found.add((len(settings), gaps))
        self.assertGreater(len(found), 10)

    def test_lanes(self):
        layout = self.layout()
        for field in layout.fields:
            low, size = lane_span(16, narrowest_lane(layout, field.name))
            self.assertEqual(setting_tasks(layout, ("a", field.name, 0, 0, 0))[0].steps[0].lane, {0: "b0", 8: "b1"}[low])
            self.assertEqual(size, 8)


if __name__ == "__main__":
    unittest.main()
