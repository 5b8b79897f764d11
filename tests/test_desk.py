import random
import unittest

from drawn import drawn_system
from keptbits.desk import Desk
from keptbits.effects import Effect
from keptbits.errors import (BitError, InvalidKind, InvalidLane, InvalidLetters, InvalidStep, InvalidSystem, InvalidText, InvalidWidth,
                             NoName, NoNeutral, NoSystem, NotEnabled, NothingToUndo, TooLarge, UnknownCommand)
from keptbits.holds import fewest_holds
from keptbits.judge import judge
from keptbits.kinds import Kind
from keptbits.machine import LoggedMachine
from keptbits.neutral import neutral_write
from keptbits.systems import System
from keptbits.units import units_of
from large import OVER, VAST
from samples import ODD_VALUES, refused, same
from test_items import TEXT
from test_moves import BOTH, EARLY, READY

# a line of each sort that is written as it must be
LINES = ("text", "step main", "device READY 0", "back 1", "moves", "places", "value READY", "units", "judge", "holds",
         "neutral S w READY", "effect keep clear1 raise 1")
# fields that a write of S must not move
RICH = """width 16
port S
field DONE 0 1 keep clear1 raise 0
field MODE 2 2 keep store still 1
field FLAG 9 1 keep clear0 raise 0
task main 0 0
read a S w
serve a 1"""


def as_line(text):
    return "system " + text.replace("\n", " / ")


def desk_of(text, *lines):
    desk = Desk()
    desk.say_all(as_line(text), *lines)
    return desk


def told(desk):
    """All that a desk says of its system and its machine."""
    try:
        shown = [desk.say(line) for line in ("text", "moves", "places")]
    except NoSystem:
        return None
    names = [word.split(" ")[1] for word in shown[0].split(" / ") if word.startswith("field ")]
    shown += [desk.say(f"value {name}") for name in names]
    number = 0
    while True:
        number += 1
        try:
            desk.say_all(f"back {number}", "step nobody")
        except NotEnabled:
            continue
        except NothingToUndo:
            return shown + [number - 1]


class Systems(unittest.TestCase):
    def test_texts(self):
        desk = Desk()
        for text in (READY, EARLY, BOTH, TEXT, RICH):
            self.assertEqual(desk.say(as_line(text)), "ok")
            self.assertEqual(desk.say(line="text"), as_line(str(System.of_text(text)))[len("system "):])
        self.assertEqual(desk_of(READY).say("text"), "width 8 / port S / field READY 0 1 keep clear1 raise 0 / task main 0 0 / "
                                                    "read a S w / write S w a 0 255 0 means READY / serve a 1")

    def test_a_new_machine(self):
        desk = desk_of(READY, "step main", "device READY 0")
        self.assertEqual(desk.say("places"), "main 1")
        self.assertEqual(desk.say_all(as_line(READY), "places", "value READY"), ["ok", "main 0", "0"])
        refused(self, NothingToUndo, {"number": 1}, desk.say, "back 1")

    def test_errors_of_texts(self):
        for desk in (Desk(), desk_of(BOTH, "step irq")):
            before = told(desk)
            for rest, place in (("", (0, 0)), (" ", (0, 0)), ("width", (0, 1)), ("width 8 ", (0, 2)), ("width  8", (0, 1)),
                                ("width 8 / port S /  / port T", (2, 0)), ("width 8 / port", (1, 1)), ("width 8 /", (0, 2)),
                                ("/ port S", (0, 0)), ("width 8 / / port S", (1, 0)), ("width 8/port S", (0, 1)),
                                ("width 8 / port S / field A 0 1 keep store still", (2, 7)), ("width 8 / port S extra", (1, 2)),
                                ("a / b", (0, 0)), ("width 8 / / / port S", (1, 0))):
                refused(self, InvalidText, {"line": place[0], "word": place[1]}, desk.say, f"system {rest}")
            refused(self, InvalidWidth, {"value": 9}, desk.say, "system width 9 / port S")
            refused(self, InvalidSystem, {"name": "", "index": 0, "reason": "tasks"}, desk.say, "system width 8 / port S")
            refused(self, InvalidStep, {"reason": "mask"}, desk.say, as_line(READY.replace("serve a 1", "serve a 0")))
            refused(self, InvalidSystem, {"name": "main", "index": 2, "reason": "loaded"}, desk.say,
                    as_line(READY.replace("serve a 1", "serve b 1")))
            self.assertEqual(told(desk), before)


class Machines(unittest.TestCase):
    def test_moves(self):
        desk = desk_of(EARLY)
        self.assertEqual(desk.say_all("moves", "device READY 0", "moves", "step main", "step main", "device READY 0", "value READY",
                                      "step main", "value READY", "places"),
                         ["device READY 0, step main", "ok", "step main", "ok", "ok", "ok", "1", "lost READY 0", "0", "main 0"])
        self.assertEqual(desk.say_all("back 2", "places", "value READY", "back 3", "places", "value READY"),
                         ["ok", "main 2", "1", "ok", "main 0", "0"])
        for number in (0, 1, 2, 5, 999999999):
            refused(self, NothingToUndo, {"number": number}, desk.say, f"back {number}")

    def test_several_faults_and_tasks(self):
        text = "width 8\nport S\nfield B 4 2 keep store drift 3\nfield A 0 1 keep store still 1\ntask main 0 0\nwrite S w 0\n" \
               "task tick 1 0\nread a S w\nread b S w"
        desk = desk_of(text)
        self.assertEqual(desk.say_all("step tick", "places", "moves", "device B 1", "step main", "value B"),
                         ["ok", "main 0, tick 1", "device B 0, device B 1, step main, step tick", "ok", "moved A 0, moved B 0", "0"])

    def test_values(self):
        desk = desk_of(RICH, "device FLAG 0")
        self.assertEqual([desk.say(f"value {name}") for name in ("DONE", "MODE", "FLAG")], ["0", "1", "1"])
        for name in ("S", "X", "READY"):
            refused(self, NoName, {"name": name}, desk.say, f"value {name}")

    def test_what_is_not_enabled(self):
        desk = desk_of(BOTH, "step main", "step irq")
        before = told(desk)
        for line, move in (("step main", ("step", "main")), ("step nobody", ("step", "nobody")), ("device READY 1", ("device", "READY", 1)),
                           ("device X 0", ("device", "X", 0)), ("device READY 999999999", ("device", "READY", 999999999))):
            refused(self, NotEnabled, {"move": move}, desk.say, line)
            self.assertEqual(told(desk), before)

    def test_drawn_machines(self):
        draw = random.Random(140)
        for _ in range(40):
            system = drawn_system(draw)
            desk, machine = desk_of(str(system)), LoggedMachine(system)
            for _ in range(12):
                moves = list(machine.moves())
                lines = [" ".join(str(part) for part in move) for move in moves]
                self.assertEqual(desk.say("moves"), ", ".join(lines))
                self.assertEqual(desk.say("places"), ", ".join(f"{task.name} {place}" for task, place in zip(system, machine.places)))
                if draw.random() < 0.2 and machine.done:
                    number = draw.randint(1, machine.done)
                    machine.back(number)
                    self.assertEqual(desk.say(f"back {number}"), "ok")
                else:
                    at = draw.randrange(len(moves))
                    faults = machine.do(moves[at])
                    self.assertEqual(desk.say(lines[at]), ", ".join(" ".join(map(str, fault)) for fault in faults) or "ok")
                for field in system.layout.fields:
                    self.assertEqual(desk.say(f"value {field.name}"), str(machine[field.name]))


class Judging(unittest.TestCase):
    def test_units(self):
        self.assertEqual(desk_of(READY).say("units"), "READY.0 main.a.0")
        self.assertEqual(desk_of("width 8\nport S\nkey K 1\ntask a 0 0\nread a S w").say("units"), "-")
        text = """width 16
port S
field L 0 1 keep none drift 0
field H 8 1 keep none drift 0 held L
field A 4 1 keep store still 0 key UNLOCK
key UNLOCK 1 2
task main 0 0
read a S b0
read b S b1
pair a b H"""
        self.assertEqual(desk_of(text).say("units"), "A.0 UNLOCK, H.0, L.0, H.latch main.a.H main.b.H")
        self.assertEqual(desk_of(TEXT).say("units").count(", ") + 1, len(units_of(System.of_text(TEXT))))

    def test_judge(self):
        for text, answer in ((READY, "safe 9"), ("width 8\nport S\ntask a 0 0\nread a S w", "safe"),
                             (EARLY, "bad device READY 0, step main, step main, device READY 0, step main : lost READY 0"),
                             (BOTH, "bad device READY 0, step main, step irq, step irq, device READY 0, step irq, step main : "
                                    "lost READY 0")):
            self.assertEqual(desk_of(text).say("judge"), answer)
        two = "width 8\nport S\nfield A 0 1 keep store still 1\nfield B 1 1 keep store still 1\ntask a 0 0\n"
        self.assertEqual(desk_of(two + "write S w 0").say("judge"), "bad step a : moved A 0, moved B 0")
        # the numbers of states are in the order of the units
        self.assertEqual(desk_of(two.replace("B 1 1 keep store still", "B 1 1 keep none drift") + "read a S w").say("judge"),
                         "safe 1 2")

    def test_it_judges_the_system_and_not_the_machine(self):
        desk = desk_of(EARLY, "device READY 0", "step main")
        before = told(desk)
        self.assertEqual(desk.say_all("judge", "holds", "units"), desk_of(EARLY).say_all("judge", "holds", "units"))
        self.assertEqual(told(desk), before)

    def test_holds(self):
        self.assertEqual(desk_of(READY).say("holds"), "-")
        self.assertEqual(desk_of(BOTH).say("holds"), "main 1")
        run = "device READY 0, step main, step main, device READY 0, step main"
        self.assertEqual(desk_of(EARLY).say("holds"), f"never {run}")
        text = """width 8
port S
field A 0 1 keep store still 0
field B 1 1 keep store still 0
task main 0 0
read a S w
write S w a 0 254 1 means A
task tick 1 0
read a S w
write S w a 0 253 2 means B"""
        self.assertEqual(desk_of(text).say("holds"), "main 1, tick 1")

    def test_what_is_too_large(self):
        for text in (OVER, VAST):
            desk = desk_of(text)
            refused(self, TooLarge, {"limit": 1000}, desk.say, "judge")
            refused(self, TooLarge, {"limit": 1000}, desk.say, "holds")
            self.assertEqual(desk.say("places").count(" 0"), len(System.of_text(text).tasks))

    def test_drawn_systems(self):
        draw, seen = random.Random(141), set()
        for _ in range(60):
            system = drawn_system(draw)
            desk = desk_of(str(system))
            try:
                verdict, held = judge(system), fewest_holds(system)
            except TooLarge:
                refused(self, TooLarge, {"limit": 1000}, desk.say, "judge")
                continue
            words = {move: " ".join(map(str, move)) for run in (getattr(verdict, "run", ()), getattr(held, "run", ())) for move in run}
            if verdict.is_safe:
                wanted = " ".join(["safe", *[str(len(table)) for table in verdict.tables]])
            else:
                faults = ", ".join(" ".join(map(str, fault)) for fault in verdict.faults)
                wanted = f"bad {', '.join(words[move] for move in verdict.run)} : {faults}"
            self.assertEqual(desk.say("judge"), wanted)
            if not held.can_help:
                wanted = "never " + ", ".join(words[move] for move in held.run)
            else:
                wanted = ", ".join(f"{name} {k}" for name, k in held.chosen) or "-"
            self.assertEqual(desk.say("holds"), wanted)
            seen.add((verdict.is_safe, held.can_help))
        self.assertEqual(len(seen), 3)


class Tools(unittest.TestCase):
    def test_neutral(self):
        desk = desk_of(RICH)
        self.assertEqual(desk.say("neutral S b0 MODE"), "0 12")
        self.assertEqual(desk.say("neutral S w MODE"), "512 12")
        self.assertEqual(desk.say("neutral S w MODE DONE"), "512 13")
        self.assertEqual(desk.say("neutral S b1 FLAG"), "0 2")
        layout = System.of_text(RICH).layout
        self.assertEqual(desk.say("neutral S w MODE FLAG MODE"), "{} {}".format(*neutral_write(layout, "S", "w", "MODE", "FLAG")))
        for line, error, attributes in (("neutral X w MODE", NoName, {"name": "X"}), ("neutral X w Y", NoName, {"name": "X"}),
                                        ("neutral MODE w MODE", NoName, {"name": "MODE"}), ("neutral S b2 MODE", InvalidLane, {"value": "b2"}),
                                        ("neutral S x9y Y", InvalidLane, {"value": "x9y"}), ("neutral S w MODE Y S", NoName, {"name": "Y"}),
                                        ("neutral S w S", NoName, {"name": "S"}), ("neutral S w DONE", NoNeutral, {"name": "MODE", "index": 0}),
                                        ("neutral S w FLAG", NoNeutral, {"name": "MODE", "index": 0})):
            refused(self, error, attributes, desk.say, line)

    def test_effects(self):
        for desk in (Desk(), desk_of(READY)):
            for line, answer in (("keep clear1 raise 1", "0>0,1 1>0,1"), ("keep clear1 raise -", "0>0,1 1>1"),
                                 ("take once still r", "0>0 1>0 2>2 3>2"), ("keep once still 10", "0>3 1>3 2>2 3>3"),
                                 ("keep store drift 0r1", "0>0,1 1>0,1")):
                self.assertEqual(desk.say(f"effect {line}"), answer)
            for line, value in (("x store still -", "x"), ("keep x9 y -", "x9"), ("keep store 7 -", "7"),
                                ("keep store store " + "0" * 41, "store")):
                refused(self, InvalidKind, {"value": value}, desk.say, f"effect {line}")
            refused(self, InvalidLetters, {"index": 40}, desk.say, "effect keep store still " + "0" * 41)
            self.assertEqual(desk.say("effect keep flip1 still " + "1" * 39), "0>1 1>0")

    def test_drawn_effects(self):
        draw, desk = random.Random(142), Desk()
        for _ in range(200):
            words = [draw.choice(row) for row in (Kind.READINGS, Kind.WRITINGS, Kind.DEVICES)]
            letters = "".join(draw.choice("01r") for _ in range(draw.randrange(5)))
            effect = Effect.of(Kind(*words), letters)
            wanted = " ".join(f"{state}>{','.join(map(str, effect(state)))}" for state in effect.kind.states)
            self.assertEqual(desk.say(f"effect {' '.join(words)} {letters or '-'}"), wanted)


class Words(unittest.TestCase):
    def test_unknown_commands(self):
        for desk in (Desk(), desk_of(READY)):
            before = told(desk)
            for value in (*ODD_VALUES, ["text"], ("moves",), {"text": 1}, *[line + "\n" for line in LINES], "te\nxt", "\n", "text\nmoves",
                          *[" " + line for line in LINES], "Text", "TEXT", "step", "device", "device READY", "back", "value",
                          "neutral", "neutral S", "neutral S w", "effect", "effect keep", "effect keep clear1 raise", "system",
                          "system\nwidth 8", "system width 8\nport S", *[line + " " for line in LINES if not line.startswith("neutral")],
                          *[line + " x" for line in LINES if not line.startswith("neutral")], "effect keep clear1 raise 1 1",
                          "step  main", "device  READY 0", "say", "steps", "hold", "judge 1", "text 1", "moves 0", "exit", "0", "-"):
                refused(self, UnknownCommand, {}, desk.say, value)
            self.assertEqual(told(desk), before)

    def test_words(self):
        for desk in (Desk(), desk_of(READY)):
            before = told(desk)
            for line, word in (("step ", 1), ("step Main", 1), ("step mainloops", 1), ("step mainloopss", 1), ("step a1", 1),
                               ("step main0", 1), ("device  0", 1), ("device READY ", 2), ("device ready 0", 1), ("device READY 00", 2),
                               ("device READY -1", 2), ("device READY +1", 2), ("device READY 1234567890", 2), ("device ready x", 1),
                               ("device 0READY 0", 1), ("device READY_READY 0", 1), ("device READY 0x1", 2), ("device READY 1_0", 2),
                               ("back ", 1), ("back 01", 1), ("back -1", 1), ("back -", 1), ("back 1000000000", 1), ("back x", 1),
                               ("back 1.0", 1), ("value ", 1), ("value Ready", 1), ("value _A", 1), ("neutral  w READY", 1),
                               ("neutral S  READY", 2), ("neutral S w ", 3), ("neutral S w READY ", 4), ("neutral S w  READY", 3),
                               ("neutral S w READY ready X", 4), ("neutral s W ready", 1), ("neutral S W ready", 2),
                               ("neutral S b-1 ready", 2), ("effect Keep clear1 raise 1", 1), ("effect keep Clear1 x 2", 2),
                               ("effect keep clear1 ra_ise 1", 3), ("effect keep clear1 raise 2", 4), ("effect keep clear1 raise --", 4),
                               ("effect keep clear1 raise ", 4), ("effect keep clear1 raise 0-", 4), ("effect keep clear1 raise R", 4),
                               ("effect  clear1 raise 1", 1), ("effect keep clear1 raise " + "0" * 41 + "x", 4)):
                refused(self, InvalidText, {"line": 0, "word": word}, desk.say, line)
            self.assertEqual(told(desk), before)

    def test_without_a_system(self):
        desk = Desk()
        for line in LINES:
            if line.startswith("effect"):
                self.assertEqual(desk.say(line), "0>0,1 1>0,1")
            else:
                refused(self, NoSystem, {}, desk.say, line)
        for line in ("value X", "step nobody", "back 999999999", "neutral X x9 Y", "device X 9"):
            refused(self, NoSystem, {}, desk.say, line)
        refused(self, InvalidKind, {"value": "x"}, desk.say, "effect x y z 1")
        refused(self, InvalidText, {"line": 0, "word": 0}, desk.say, "system text")
        refused(self, NoSystem, {}, desk.say, "text")


class Rows(unittest.TestCase):
    def test_say_all(self):
        desk = Desk()
        self.assertTrue(same(desk.say_all(), []))
        answers = desk.say_all(as_line(READY), "device READY 0", "value READY", "effect keep store still -")
        self.assertTrue(same(answers, ["ok", "ok", "1", "0>0 1>1"]))
        answers.append("x")
        self.assertEqual(desk.say("value READY"), "1")

    def test_all_or_none(self):
        wrong = ("nothing", "step ", "step nobody", "back 9", "value X", "system x", "effect x y z -", 5, None, "neutral S w MODE X")
        for made in (Desk, lambda: desk_of(EARLY, "device READY 0", "step main")):
            for line in wrong:
                desk = made()
                before = told(desk)
                for rows in ((line,), (as_line(BOTH), "device READY 0", "step irq", line), (as_line(READY), line, "step main")):
                    with self.assertRaises(BitError):
                        desk.say_all(*rows)
                    self.assertEqual(told(desk), before)
        desk = desk_of(EARLY, "device READY 0", "step main")
        before = told(desk)
        for rows in (("step main", "back 1", "back 1", "device READY 0", "device READY 0"), ("back 2", "back 1"),
                     ("step main", "judge", "holds", "value X")):
            with self.assertRaises(BitError):
                desk.say_all(*rows)
            self.assertEqual(told(desk), before)
        self.assertEqual(desk.say_all("step main", "back 3", "places"), ["ok", "ok", "main 0"])

    def test_desks_are_independent(self):
        one, other = desk_of(EARLY), desk_of(EARLY)
        one.say("step main")
        self.assertEqual((one.say("places"), other.say("places")), ("main 1", "main 0"))


if __name__ == "__main__":
    unittest.main()
