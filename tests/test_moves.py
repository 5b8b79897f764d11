"""What moves do, sentence by sentence, and against a second telling of the moves."""

import random
import unittest

from drawn import drawn_system
from keptbits.items import items_of
from keptbits.systems import System
from keptbits.units import Unit, units_of
from samples import same
from search import bad_runs, is_safe, levels_of
from world import World

READY = """width 8
port S
field READY 0 1 keep clear1 raise 0
task main 0 0
read a S w
write S w a 0 255 0 means READY
serve a 1"""
EARLY = READY.replace("write S w a 0 255 0 means READY\nserve a 1", "serve a 1\nwrite S w a 0 255 0 means READY")
BOTH = READY + """
task irq 0 1
read b S w
write S w b 0 255 0 means READY
serve b 1"""


def move_of(word):
    """The move that a word stands for: the name of a task, or FIELD.I."""
    if "." in word:
        name, i = word.split(".")
        return "device", name, int(i)
    return "step", word


def moves_of(words):
    return tuple(move_of(word) for word in words.split())


def item_word(item):
    """The word of an item: FIELD.I, KEY, FIELD.latch, TASK.VARIABLE.I or TASK.VARIABLE.FIELD."""
    parts = [str(part) for part in item[1:]]
    return ".".join(parts + ["latch"] if item[0] == "latch" else parts)


def shown(unit, state):
    """A state: the places, all entries but (0, 0) as ITEM=VALUE or ITEM=VALUE@TOKEN, and the tokens."""
    places, entries, tokens = state
    words = [f"{item_word(item)}={value}" + (f"@{token}" if token else "")
             for item, (value, token) in zip(unit.members, entries) if (value, token) != (0, 0)]
    rows = (places, words, [".".join(str(part) for part in token) for token in tokens])
    return " | ".join(" ".join(str(part) for part in row) for row in rows).strip()


class Followed(unittest.TestCase):
    def follow(self, text, *rows):
        """Make moves; each row is a move, the state behind it and, if there are any, its faults."""
        unit = Unit.of_all(System.of_text(text))
        state = unit.start
        for word, wanted, *faults in rows:
            move = move_of(word)
            self.assertIn(move, list(unit.moves(state)))
            before = state
            state, found = unit.after(before, move)
            self.assertEqual(shown(unit, state), wanted)
            self.assertTrue(same(found, tuple(faults)), found)
            self.assertTrue(same(unit.after(before, move), (state, found)))
        return unit, state

    def enabled(self, unit, state):
        return " ".join(".".join(str(part) for part in move[1:]) for move in unit.moves(state))


class Deeds(Followed):
    TEXT = """width 8
port R
field B 1 1 keep store raise 0
field D 3 1 keep store drift 0
field A 0 1 keep store still 0
field C 2 1 keep store end 1
task t 0 0
write R w 255 means A B C D
task s 1 0
write R w 0 means A B C D"""

    def test_when_they_are_enabled(self):
        unit, state = self.follow(self.TEXT)
        self.assertEqual(shown(unit, state), "0 0 | C.0=1 |")
        self.assertEqual(self.enabled(unit, state), "B.0 C.0 D.0 s t")
        unit, state = self.follow(self.TEXT, ("C.0", "0 0 |  |"), ("D.0", "0 0 | D.0=1 |"), ("D.0", "0 0 |  |"))
        self.assertEqual(self.enabled(unit, state), "B.0 D.0 s t")

    def test_a_written_one_holds_no_token(self):
        unit, state = self.follow(
            self.TEXT,
            ("t", "0 0 | B.0=1 D.0=1 A.0=1 C.0=1 |"),
            ("B.0", "0 0 | B.0=1@1 D.0=1 A.0=1 C.0=1 | B.0.0"),
            # a bit that is 1 before and after keeps its token
            ("t", "0 0 | B.0=1@1 D.0=1 A.0=1 C.0=1 | B.0.0"),
        )
        # while it holds an unserved token, an event is no move
        self.assertEqual(self.enabled(unit, state), "C.0 D.0 s t")
        self.follow(self.TEXT, ("B.0", "0 0 | B.0=1@1 C.0=1 | B.0.0"), ("s", "0 0 |  |", ("lost", "B", 0)))

    def test_an_event_behind_one_that_is_served(self):
        text = """width 8
port R
field E 3 1 keep none raise 0
task t 0 0
read a R w
serve a 8
serve a 247
read b R w"""
        unit, state = self.follow(
            text,
            ("E.0", "0 | E.0=1@1 | E.0.0"),
            ("t", "1 | E.0=1@1 t.a.3=1@1 | E.0.0"),
            ("t", "2 | E.0=1@1 t.a.3=1@1 | E.0.1"),
            ("E.0", "2 | E.0=1@1 t.a.3=1@2 | E.0.0 E.0.1"),
            ("t", "3 | E.0=1@1 t.a.3=1@2 | E.0.0 E.0.1"),
            ("t", "0 | E.0=1@1 | E.0.0"),
        )
        self.assertEqual(self.enabled(unit, state), "t")

    def test_a_deed_of_a_spent_bit(self):
        text = """width 8
port R
field A 0 1 keep once end 0
field B 1 1 keep once raise 0
field C 2 1 keep once drift 1
task t 0 0
write R w 1 means A B C"""
        self.follow(
            text,
            ("t", "0 | A.0=3 B.0=2 C.0=2 |"),
            ("A.0", "0 | A.0=2 B.0=2 C.0=2 |"),
            ("B.0", "0 | A.0=2 B.0=3@1 C.0=2 | B.0.0"),
            ("C.0", "0 | A.0=2 B.0=3@1 C.0=3 | B.0.0"),
            ("C.0", "0 | A.0=2 B.0=3@1 C.0=2 | B.0.0"),
        )

    def test_tokens_are_numbered_by_the_items_that_hold_them(self):
        text = READY.replace("READY 0 1", "READY 0 2").replace("serve a 1", "serve a 3")
        self.follow(
            text,
            ("READY.1", "0 | READY.1=1@1 | READY.1.0"),
            ("main", "1 | READY.1=1@1 main.a.1=1@1 | READY.1.0"),
            ("READY.0", "1 | READY.0=1@1 READY.1=1@2 main.a.1=1@2 | READY.0.0 READY.1.0"),
            ("main", "2 | READY.0=1@1 main.a.1=1@2 | READY.0.0 READY.1.0"),
            ("READY.1", "2 | READY.0=1@1 READY.1=1@2 main.a.1=1@3 | READY.0.0 READY.1.0 READY.1.0"),
            ("main", "0 | READY.0=1@1 READY.1=1@2 | READY.0.0 READY.1.0"),
        )


class Turns(Followed):
    def system(self, *tasks):
        """A text with tasks of two steps, each (name, core, rank, what it holds)."""
        rows = [f"task {name} {core} {rank}{hold}\nwrite R w 0\nwrite R w 0" for name, core, rank, hold in tasks]
        return "\n".join(["width 8", "port R", *rows])

    def enabled_behind(self, text, words):
        unit = Unit.of_all(System.of_text(text))
        state = unit.start
        for word in words.split():
            state, faults = unit.after(state, move_of(word))
            self.assertEqual(faults, ())
        return self.enabled(unit, state)

    def test_ranks(self):
        text = self.system(("low", 0, 1, ""), ("high", 0, 2, ""), ("same", 0, 1, ""))
        self.assertEqual(self.enabled_behind(text, ""), "high low same")
        self.assertEqual(self.enabled_behind(text, "low"), "high low")
        self.assertEqual(self.enabled_behind(text, "same"), "high same")
        self.assertEqual(self.enabled_behind(text, "high"), "high")
        # a task under way goes on only when those that broke in on it are done
        self.assertEqual(self.enabled_behind(text, "low high"), "high")
        self.assertEqual(self.enabled_behind(text, "low high high"), "high low")
        self.assertEqual(self.enabled_behind(text, "low low"), "high low same")

    def test_cores(self):
        text = self.system(("a", 0, 9, ""), ("b", 1, 0, ""), ("c", 2, 5, ""))
        for words in ("", "a", "a b", "a b c", "c"):
            self.assertEqual(self.enabled_behind(text, words), "a b c")

    def test_holds(self):
        text = self.system(("a", 0, 0, " hold 1"), ("b", 0, 1, ""), ("c", 1, 9, ""))
        self.assertEqual(self.enabled_behind(text, ""), "a b c")
        self.assertEqual(self.enabled_behind(text, "a"), "a")
        self.assertEqual(self.enabled_behind(text, "a a"), "a b c")
        self.assertEqual(self.enabled_behind(text, "b"), "b c")
        self.assertEqual(self.enabled_behind(text, "c a"), "a")
        # two tasks that hold at once keep out each other for ever
        both = self.system(("a", 0, 0, " hold 1"), ("b", 1, 0, " hold 1"))
        self.assertEqual(self.enabled_behind(both, "a"), "a")

    def test_holds_do_not_keep_out_the_device(self):
        unit, state = self.follow(READY.replace("main 0 0", "main 0 0 hold 1 2"), ("main", "1 |  |"))
        self.assertEqual(self.enabled(unit, state), "READY.0 main")

    def test_a_task_that_is_done_forgets(self):
        text = READY.replace("serve a 1", "read b S w") + "\ntask x 1 0\nread a S w\nserve a 1"
        self.follow(
            text,
            ("READY.0", "0 0 | READY.0=1@1 | READY.0.0"),
            ("main", "1 0 | READY.0=1@1 main.a.0=1@1 | READY.0.0"),
            ("x", "1 1 | READY.0=1@1 main.a.0=1@1 x.a.0=1@1 | READY.0.0"),
            ("main", "2 1 | main.a.0=1@1 x.a.0=1@1 | READY.0.0"),
            ("main", "0 1 | x.a.0=1@1 | READY.0.0"),
            ("x", "0 0 |  |"),
        )


class Reads(Followed):
    def test_taken_bits(self):
        text = """width 16
port R{}
field E 0 1 take none raise 0
field F 8 1 take once raise 0
task t 0 0
write R b1 0 means F
read a R b0{}
write R b1 0 means F"""
        ahead = (
            ("t", "1 | F.0=2 |"),
            ("E.0", "1 | E.0=1@1 F.0=2 | E.0.0"),
            ("F.0", "1 | E.0=1@1 F.0=3@2 | E.0.0 F.0.0"),
        )
        self.follow(text.format("", " means E"), *ahead, ("t", "2 | F.0=3@1 t.a.0=1@2 | F.0.0 E.0.0"))
        # what is taken beside the lane of a whole register, no variable loads; a spent bit stays spent
        lost = ("lost", "F", 0)
        self.follow(text.format(" whole", " means E F"), *ahead, ("t", "2 | F.0=2 t.a.0=1@1 | E.0.0", lost))
        self.follow(text.format(" whole", " means E"), *ahead,
                    ("t", "2 | F.0=2 t.a.0=1@1 | E.0.0", lost, ("moved", "F", 0)))
        self.follow(text.format(" whole", ""), *ahead,
                    ("t", "2 | F.0=2 t.a.0=1@1 | E.0.0", lost, ("moved", "E", 0), ("moved", "F", 0)))

    def test_what_is_loaded(self):
        text = """width 16
port R
field A 0 2 keep store still 2
field B 7 2 keep store still 3 commit C
field C 15 1 keep set1 still 0
task t 0 0
read a R {}
write R w 0 means A B
read a R {}
read a R b1
read b R w"""
        bits = "A.1=1 B.0=3 B.1=3"
        # fronts are loaded, and each Read loads the whole variable anew
        self.follow(
            text.format("w", "w"),
            ("t", f"1 | {bits} t.a.1=1 t.a.7=1 t.a.8=1 |"),
            ("t", "2 | B.0=1 B.1=1 t.a.1=1 t.a.7=1 t.a.8=1 |"),
            ("t", "3 | B.0=1 B.1=1 t.a.7=1 t.a.8=1 |"),
            ("t", "4 | B.0=1 B.1=1 t.a.0=1 |"),
            ("t", "0 | B.0=1 B.1=1 |"),
        )
        self.follow(text.format("b0", "b1"), ("t", f"1 | {bits} t.a.1=1 t.a.7=1 |"),
                    ("t", "2 | B.0=1 B.1=1 t.a.1=1 t.a.7=1 |"), ("t", "3 | B.0=1 B.1=1 t.a.0=1 |"))

    LATCHED = """width 16
port T{}
field LOW 0 1 keep none drift 1
field HIGH 8 1 keep none drift 0 held LOW
port U
field FAR 3 1 keep none drift 0 held LOW
task t 0 0
read a {} means
read b {} means
pair a b HIGH
read a U w"""

    def latched(self, first, second, whole=""):
        return self.LATCHED.format(whole, first, second).replace(" means", "")

    def test_latches(self):
        # FAR has copies, but no latch, as no Pair names it
        self.follow(
            self.latched("T b0", "T b1"),
            ("FAR.0", "0 | LOW.0=1 FAR.0=1 HIGH.latch=0@1 | HIGH.0.2"),
            ("HIGH.0", "0 | LOW.0=1 HIGH.0=1 FAR.0=1 HIGH.latch=0@1 | HIGH.0.2"),
            ("t", "1 | LOW.0=1 HIGH.0=3 FAR.0=3 HIGH.latch=0@1 t.a.0=1 t.a.HIGH=0@1 | HIGH.0.2"),
            ("HIGH.0", "1 | LOW.0=1 HIGH.0=2 FAR.0=3 HIGH.latch=0@1 t.a.0=1 t.a.HIGH=0@1 | HIGH.0.2"),
            # the copy is loaded; a Read of HIGH alone latches nothing
            ("t", "2 | LOW.0=1 HIGH.0=2 FAR.0=3 HIGH.latch=0@1 t.a.0=1 t.b.0=1 t.a.HIGH=0@1 t.b.HIGH=0@1 | HIGH.0.2"),
            ("t", "3 | LOW.0=1 HIGH.0=2 FAR.0=3 HIGH.latch=0@1 t.a.0=1 t.b.0=1 t.a.HIGH=0@1 t.b.HIGH=0@1 | HIGH.0.2"),
            ("t", "0 | LOW.0=1 HIGH.0=2 FAR.0=3 HIGH.latch=0@1 | HIGH.0.2"),
        )

    def test_a_mark_is_lost_by_another_read(self):
        self.follow(
            self.latched("T b0", "T b1") + "\nserve b 1",
            ("t", "1 | LOW.0=1 HIGH.latch=0@1 t.a.0=1 t.a.HIGH=0@1 | HIGH.0.2"),
            ("t", "2 | LOW.0=1 HIGH.latch=0@1 t.a.0=1 t.a.HIGH=0@1 t.b.HIGH=0@1 | HIGH.0.2"),
            ("t", "3 | LOW.0=1 HIGH.latch=0@1 t.a.0=1 t.a.HIGH=0@1 t.b.HIGH=0@1 | HIGH.0.2"),
            ("t", "4 | LOW.0=1 HIGH.latch=0@1 t.b.HIGH=0@1 | HIGH.0.2"),
        )

    def test_torn(self):
        # each Read of the whole word is a latch of its own
        self.follow(
            self.latched("T w", "T w"),
            ("t", "1 | LOW.0=1 HIGH.latch=0@1 t.a.0=1 t.a.HIGH=0@1 | HIGH.0.2"),
            ("t", "2 | LOW.0=1 HIGH.latch=0@1 t.a.0=1 t.b.0=1 t.a.HIGH=0@2 t.b.HIGH=0@1 | HIGH.0.2 HIGH.0.2"),
            ("t", "3 | LOW.0=1 HIGH.latch=0@1 t.a.0=1 t.b.0=1 t.a.HIGH=0@2 t.b.HIGH=0@1 | HIGH.0.2 HIGH.0.2",
             ("torn", "t", "a", "b", "HIGH")),
        )
        # the halves in the wrong order: the mark of b is that of the latch before
        self.follow(
            self.latched("T b1", "T b0").replace("read a T", "read b T", 1).replace("read b T b0", "read a T b0"),
            ("t", "1 | LOW.0=1 HIGH.latch=0@1 t.b.HIGH=0@1 | HIGH.0.2"),
            ("t", "2 | LOW.0=1 HIGH.latch=0@1 t.a.0=1 t.a.HIGH=0@1 t.b.HIGH=0@2 | HIGH.0.2 HIGH.0.2"),
            ("t", "3 | LOW.0=1 HIGH.latch=0@1 t.a.0=1 t.a.HIGH=0@1 t.b.HIGH=0@2 | HIGH.0.2 HIGH.0.2",
             ("torn", "t", "a", "b", "HIGH")),
        )

    def test_a_unit_with_one_mark_of_a_pair(self):
        system = System.of_text(self.latched("T w", "T w"))
        for name in "ab":
            unit = Unit.around(system, ("mark", "t", name, "HIGH"))
            state = unit.start
            for _ in range(4):
                state, faults = unit.after(state, ("step", "t"))
                self.assertEqual(faults, ())
            self.assertEqual(shown(unit, state), "0 | HIGH.latch=0@1 | HIGH.0.2")

    def test_a_latch_beside_the_lane(self):
        # in a whole register each Read acts on LOW, but only the lane itself tells whether a mark is seen
        self.follow(
            self.latched("T b0", "T b1", " whole"),
            ("HIGH.0", "0 | LOW.0=1 HIGH.0=1 HIGH.latch=0@1 | HIGH.0.2"),
            ("t", "1 | LOW.0=1 HIGH.0=3 HIGH.latch=0@1 t.a.0=1 t.a.HIGH=0@1 | HIGH.0.2"),
            ("HIGH.0", "1 | LOW.0=1 HIGH.0=2 HIGH.latch=0@1 t.a.0=1 t.a.HIGH=0@1 | HIGH.0.2"),
            ("t", "2 | LOW.0=1 HIGH.latch=0@1 t.a.0=1 t.a.HIGH=0@2 t.b.HIGH=0@1 | HIGH.0.2 HIGH.0.2"),
            ("t", "3 | LOW.0=1 HIGH.latch=0@1 t.a.0=1 t.a.HIGH=0@2 t.b.HIGH=0@1 | HIGH.0.2 HIGH.0.2",
             ("torn", "t", "a", "b", "HIGH")),
        )


class Writes(Followed):
    def rows(self, *steps, fields, tail=""):
        return "\n".join(["width 16", "port R", *[f"field {row}" for row in fields], "key K 1 2", "task t 0 0", *steps]) + tail

    def test_kinds(self):
        kinds = ("store", "clear1", "clear0", "set1", "flip1", "none")
        for k, (before, zero, one) in enumerate(((0, "0 0 0 0 0 0", "1 0 0 1 1 0"), (1, "0 1 0 1 1 1", "1 0 1 1 0 1"))):
            fields = [f"{name} {j} 1 keep {kind} still {before}" for j, (name, kind) in enumerate(zip("ABCDEF", kinds))]
            for word, wanted in ((0, zero), (63, one)):
                text = self.rows(f"write R w {word} means A B C D E F", fields=fields)
                bits = [f"{name}.0=1" for name, bit in zip("ABCDEF", wanted.split()) if bit == "1"]
                self.follow(text, ("t", " | ".join(["0", " ".join(bits), ""]).strip()))

    def test_bits_of_a_variable(self):
        fields = ("A 0 4 keep store still 9", "B 8 4 keep store still 0")
        text = self.rows("read a R b0", "write R b1 a 1 15 8 means B", "write R b0 a -1 255 0 means A",
                         "write R b0 a 0 2 1 means A", fields=fields)
        # a is 1001: shifted up and cut off, with bit 3 flipped, 1010; shifted down, 0100; bit 1 kept, bit 0 flipped, 0001
        self.follow(
            text,
            ("t", "1 | A.0=1 A.3=1 t.a.0=1 t.a.3=1 |"),
            ("t", "2 | A.0=1 A.3=1 B.1=1 B.3=1 t.a.0=1 t.a.3=1 |"),
            ("t", "3 | A.2=1 B.1=1 B.3=1 t.a.0=1 t.a.3=1 |"),
            ("t", "0 | A.0=1 B.1=1 B.3=1 |"),
        )

    def test_bits_beside_are_written_with_zero(self):
        fields = ("A 0 1 keep store still 1", "B 8 1 keep clear0 still 1", "C 9 1 keep set1 still 1")
        text = self.rows("write R b0 1 means A{}", fields=fields)
        self.follow(text.format(""), ("t", "0 | A.0=1 B.0=1 C.0=1 |"))
        whole = text.replace("port R", "port R whole")
        self.follow(whole.format(" B"), ("t", "0 | A.0=1 C.0=1 |"))
        self.follow(whole.format(""), ("t", "0 | A.0=1 C.0=1 |", ("moved", "B", 0)))

    def test_locks(self):
        fields = ("L 0 1 keep store still 0", "A 1 1 keep store still 0 lock L", "B 2 1 keep clear1 still 1 lock L",
                  "S 3 1 keep store still 0 lock S")
        text = self.rows("write R w 11 means L A S", "write R w 4 means L A B S", "write R w 2 means A B S L",
                         fields=fields)
        # the lock is taken as it is before the access, which can lock itself
        self.follow(
            text,
            ("t", "1 | L.0=1 A.0=1 B.0=1 S.0=1 |"),
            ("t", "2 | A.0=1 B.0=1 S.0=1 |", ("barred", "A", 0), ("barred", "B", 0), ("barred", "S", 0)),
            # nothing is written that another state would come of, but to S
            ("t", "0 | A.0=1 B.0=1 S.0=1 |", ("barred", "S", 0)),
        )

    def test_a_barred_bit_must_be_meant(self):
        fields = ("L 0 1 keep store still 1", "A 1 1 keep store still 0 lock L")
        self.follow(self.rows("write R w 3 means L", fields=fields), ("t", "0 | L.0=1 |"))
        self.follow(self.rows("write R w 3 means A", fields=fields), ("t", "0 | L.0=1 |", ("barred", "A", 0)))
        # also beside the lane
        beside = self.rows("write R b1 0 means A", fields=("L 0 1 keep store still 1 lock L",
                                                           "A 1 1 keep clear0 still 1 lock L"))
        self.follow(beside.replace("port R", "port R whole"), ("t", "0 | L.0=1 A.0=1 |", ("barred", "A", 0)))
        self.follow(beside, ("t", "0 | L.0=1 A.0=1 |"))

    def test_locks_with_fronts_and_live_bits(self):
        fields = ("C 0 1 keep none still 0", "L 1 1 keep store still 1 commit C", "H 2 1 keep none drift 0 held L",
                  "A 3 1 keep store still 0 lock L", "B 4 1 keep store still 0 lock H")
        text = self.rows("write R w 24 means L A B", "write R w 25 means L A B", "write R w 24 means L A B", fields=fields)
        self.follow(
            text,
            ("t", "1 | L.0=1 B.0=1 |", ("barred", "A", 0)),
            ("t", "2 | B.0=1 |", ("barred", "A", 0)),
            ("H.0", "2 | H.0=1 B.0=1 |"),
            ("t", "0 | H.0=1 A.0=1 B.0=1 |"),
            ("H.0", "0 | A.0=1 B.0=1 |"),
        )
        late = self.rows("write R w 8 means A B L", fields=(*fields[:2], "H 2 1 keep none drift 0 held L", *fields[3:]))
        self.follow(late, ("H.0", "0 | L.0=3 H.0=1 |"), ("t", "0 | L.0=1 H.0=1 |", ("barred", "A", 0)))

    def test_once(self):
        fields = ("A 0 1 keep once still 0", "B 1 1 keep once still 1", "L 2 1 keep store still 1",
                  "C 3 1 keep once still 0 lock L")
        text = self.rows("write R w 6 means A B", "write R w 6 means A B C", "write R w 13 means A B C", fields=fields)
        # a spent bit may be written with its value; a locked one that is not spent is barred whatever is written
        self.follow(
            text,
            ("t", "1 | A.0=2 B.0=3 L.0=1 |"),
            ("t", "2 | A.0=2 B.0=3 L.0=1 |", ("barred", "C", 0)),
            ("t", "0 | A.0=2 B.0=3 L.0=1 |", ("barred", "A", 0), ("barred", "B", 0), ("barred", "C", 0)),
        )
        self.follow(self.rows("write R w 0", fields=("A 0 1 keep once still 0",)), ("t", "0 | A.0=2 |", ("moved", "A", 0)))

    def test_a_read_of_a_spent_bit(self):
        text = self.rows("write R w 1 means A", "read a R w means A", "write R w 1 means A", fields=("A 0 1 take once still 1",))
        self.follow(
            text,
            ("t", "1 | A.0=3 |"),
            ("t", "2 | A.0=2 t.a.0=1 |"),
            ("t", "0 | A.0=2 |", ("barred", "A", 0)),
        )

    def test_keys(self):
        fields = ("A 0 1 keep store still 0 key K", "B 8 1 keep store still 0")
        head = ("write K w 1", "write K w 2", "write R b0 1 means A")
        self.follow(
            self.rows(*head, "write R b0 0 means A", fields=fields),
            ("t", "1 | K=1 |"), ("t", "2 | K=2 |"), ("t", "3 | A.0=1 |"), ("t", "0 | A.0=1 |", ("barred", "A", 0)),
        )
        # a write to other bits does not shut it, one to a bit that is written with its value does
        self.follow(
            self.rows(*head[:2], "write R b1 1 means B", "write R b0 0 means A", fields=fields),
            ("t", "1 | K=1 |"), ("t", "2 | K=2 |"), ("t", "3 | B.0=1 K=2 |"), ("t", "0 | B.0=1 |"),
        )
        # beside the lane of a whole register, and guarded: it is shut all the same
        beside = self.rows(*head[:2], "write R b1 0 means B", "write R b1 0 means A B", fields=fields)
        self.follow(beside.replace("port R", "port R whole"),
                    ("t", "1 | K=1 |"), ("t", "2 | K=2 |"), ("t", "3 |  |"), ("t", "0 |  |"))
        locked = ("A 0 1 keep store still 0 lock L key K", "L 8 1 keep store still 1")
        self.follow(self.rows("write K w 1", "write R b0 1", fields=locked), ("t", "1 | L.0=1 K=1 |"), ("t", "0 | L.0=1 |"))

    def test_progress(self):
        def rows(*numbers, key="K 1 2"):
            steps = [f"write K w {number}" for number in numbers]
            return self.rows(*steps, fields=()).replace("key K 1 2", f"key {key}")

        def follow(text, *progress):
            many = text.count("\nwrite")
            self.follow(text, *[("t", f"{k % many} | " + (f"K={p} |" if p else " |"))
                                for k, p in enumerate(progress, 1)])

        follow(rows(1, 1, 2, 1, 2, 2), 1, 1, 2, 1, 2, 0)
        follow(rows(1, 2, 3, 2, 1, 0), 1, 2, 0, 0, 1, 0)
        follow(rows(5, 5, 5, key="K 5"), 1, 1, 1)
        follow(rows(5, 5, 7, 5, 5, 5, key="K 5 5 7"), 1, 2, 3, 1, 2, 1)
        follow(rows(5, 6, 5, key="K 5"), 1, 0, 1)

    def test_commits(self):
        fields = ("C 0 1 keep once still 0", "F 8 2 keep store still 1 commit C", "G 10 1 keep store still 0 commit C")
        text = self.rows("write R b1 6 means F", "write R b0 0 means C", "write R b0 1 means F G", "write R b1 1",
                         "write R w 1 means F G", fields=fields)
        self.follow(
            text,
            ("t", "1 | F.0=1 F.1=2 G.0=2 |", ("moved", "G", 0)),
            ("t", "2 | C.0=2 F.0=1 F.1=2 G.0=2 |"),
            # even if it is spent, a written 1 commits
            ("t", "3 | C.0=2 F.1=3 G.0=3 |"),
            ("t", "4 | C.0=2 F.0=2 F.1=1 G.0=1 |", ("moved", "F", 0), ("moved", "F", 1), ("moved", "G", 0)),
            # back copies that the same access writes are committed
            ("t", "0 | C.0=2 |"),
        )

    def test_a_commit_must_mean_its_fields(self):
        fields = ("C 0 1 keep none still 0", "F 8 1 keep store still 0 commit C", "G 9 1 keep store still 1 commit C")
        text = self.rows("write R b1 1 means F G", "write R b0 1 means {}", "write R b0 1 means C", fields=fields)
        ahead = ("t", "1 | F.0=2 G.0=1 |")
        self.follow(text.format("F G"), ahead, ("t", "2 | F.0=3 |"), ("t", "0 | F.0=3 |"))
        self.follow(text.format("C F"), ahead, ("t", "2 | F.0=3 |", ("moved", "G", 0)))
        self.follow(text.format("C"), ahead, ("t", "2 | F.0=3 |", ("moved", "F", 0), ("moved", "G", 0)))

    def test_a_guarded_back_copy(self):
        fields = ("C 0 1 keep none still 0", "L 1 1 keep store still 1", "F 2 1 keep store still 0 lock L commit C")
        # the write is barred, though the commit of the same access would change nothing else
        self.follow(self.rows("write R w 7 means F", "write R w 3 means F", fields=fields),
                    ("t", "1 | L.0=1 |", ("barred", "F", 0)), ("t", "0 | L.0=1 |"))

    def test_a_written_event(self):
        fields = ("E 0 1 keep flip1 raise 0",)
        text = self.rows("write R w 1 means E", "write R w 1 means E", "write R w 0", fields=fields)
        self.follow(
            text,
            ("E.0", "0 | E.0=1@1 | E.0.0"), ("t", "1 |  |", ("lost", "E", 0)), ("t", "2 | E.0=1 |"),
            ("E.0", "2 | E.0=1@1 | E.0.0"), ("t", "0 | E.0=1@1 | E.0.0"),
        )


class Serves(Followed):
    def test_extra(self):
        text = """width 8
port R
field E 0 2 keep store raise 0
task t 0 0
write R w 2 means E
read a R w
serve a 3
serve a 1
serve a 252"""
        # bit 1 is written, so it was never raised; bit 0 is served twice
        self.follow(
            text,
            ("t", "1 | E.1=1 |"),
            ("E.0", "1 | E.0=1@1 E.1=1 | E.0.0"),
            ("t", "2 | E.0=1@1 E.1=1 t.a.0=1@1 t.a.1=1 | E.0.0"),
            ("t", "3 | E.0=1@1 E.1=1 t.a.0=1@1 t.a.1=1 | E.0.1", ("extra", "t", "a", 1)),
            ("t", "4 | E.0=1@1 E.1=1 t.a.0=1@1 t.a.1=1 | E.0.1", ("extra", "t", "a", 0)),
            ("t", "0 | E.0=1@1 E.1=1 | E.0.1"),
        )

    def test_all_items_that_hold_a_token_are_served(self):
        self.follow(
            BOTH,
            ("READY.0", "0 0 | READY.0=1@1 | READY.0.0"),
            ("main", "1 0 | READY.0=1@1 main.a.0=1@1 | READY.0.0"),
            ("irq", "1 1 | READY.0=1@1 main.a.0=1@1 irq.b.0=1@1 | READY.0.0"),
            ("irq", "1 2 | main.a.0=1@1 irq.b.0=1@1 | READY.0.0"),
            ("irq", "1 0 | main.a.0=1@1 | READY.0.1"),
            ("main", "2 0 | main.a.0=1@1 | READY.0.1"),
            ("main", "0 0 |  |", ("extra", "main", "a", 0)),
        )

    def test_events_that_a_task_forgets(self):
        text = READY.replace("read a S w", "read b S w\nread a S w").replace("serve a 1", "serve a 2")
        self.follow(
            text,
            ("READY.0", "0 | READY.0=1@1 | READY.0.0"),
            ("main", "1 | READY.0=1@1 main.b.0=1@1 | READY.0.0"),
            ("main", "2 | READY.0=1@1 main.a.0=1@1 main.b.0=1@1 | READY.0.0"),
            ("main", "3 | main.a.0=1@1 main.b.0=1@1 | READY.0.0"),
            ("READY.0", "3 | READY.0=1@1 main.a.0=1@2 main.b.0=1@2 | READY.0.0 READY.0.0"),
            ("main", "0 | READY.0=1@1 | READY.0.0", ("lost", "READY", 0)),
        )


class Mirrors(Followed):
    TEXT = """width 8
port R
field A 0 2 keep store still 1
field B 2 2 keep store still 1 commit C
field C 4 1 keep none still 0
task t 0 0
write R w 6 means A B
task s 1 0
write R w 18 means A B
write R w 22 means A B
mirror A B
mirror B A
mirror B A"""

    def test_parted(self):
        # A is 10 and the front of B is 01; faults are told once, and in their order
        both = [("parted", "A", "B", i) for i in (0, 1)] + [("parted", "B", "A", i) for i in (0, 1)]
        self.follow(self.TEXT, ("t", "0 0 | A.1=1 B.0=3 |", *both), ("t", "0 0 | A.1=1 B.0=3 |", *both))

    def test_only_while_no_task_is_under_way(self):
        one = [("parted", "A", "B", 1), ("parted", "B", "A", 1)]
        self.follow(
            self.TEXT,
            ("s", "0 1 | A.1=1 |"),
            ("t", "0 1 | A.1=1 B.0=2 |"),
            ("s", "0 0 | A.1=1 B.0=3 |", ("parted", "A", "B", 0), one[0], ("parted", "B", "A", 0), one[1]),
        )
        self.follow(self.TEXT.replace("write R w 18", "write R w 26").replace("write R w 22", "write R w 26"),
                    ("s", "0 1 | A.1=1 B.1=3 |"), ("s", "0 0 | A.1=1 B.1=3 |"))


class Examples(Followed):
    def test_the_example_of_what_goes_wrong(self):
        unit, state = self.follow(
            READY,
            ("READY.0", "0 | READY.0=1@1 | READY.0.0"),
            ("main", "1 | READY.0=1@1 main.a.0=1@1 | READY.0.0"),
            ("main", "2 | main.a.0=1@1 | READY.0.0"),
            ("main", "0 |  |"),
        )
        states = [((0,), ((1, 1), (0, 0)), (("READY", 0, 0),)), ((1,), ((1, 1), (1, 1)), (("READY", 0, 0),)),
                  ((2,), ((0, 0), (1, 1)), (("READY", 0, 0),)), unit.start]
        at = unit.start
        for move, wanted in zip(moves_of("READY.0 main main main"), states):
            at, faults = unit.after(at, move)
            self.assertTrue(same((at, faults), (wanted, ())))
        self.assertTrue(is_safe(unit))
        levels = levels_of(unit)
        self.assertEqual([len(level) for level in levels], [1, 2, 3, 2, 1])
        self.assertEqual(levels[1], [states[0], ((1,), ((0, 0), (0, 0)), ())])
        self.assertEqual(levels[4], [((2,), ((1, 1), (1, 2)), (("READY", 0, 0), ("READY", 0, 0)))])
        self.assertEqual(bad_runs(Unit.of_all(System.of_text(EARLY)), 6), [moves_of("READY.0 main main READY.0 main")])

    def test_the_example_of_holds(self):
        system = System.of_text(BOTH)
        for name in ("main", "irq"):
            self.assertTrue(is_safe(Unit.of_all(system.without(name))))
        unit = Unit.of_all(system)
        run = bad_runs(unit, 8)[0]
        self.assertEqual(run, moves_of("READY.0 main irq irq READY.0 irq main"))
        state = unit.start
        for move in run:
            state, faults = unit.after(state, move)
        self.assertEqual(faults, (("lost", "READY", 0),))
        self.assertTrue(is_safe(Unit.of_all(system.with_holds(("main", 1)))))
        self.assertFalse(is_safe(Unit.of_all(system.with_holds(("main", 2)))))


def used_gaps(system, before, move):
    """The gaps that a move at a state uses, as [25] tells."""
    if move[0] != "step":
        return set()
    return {(task.name, place) for task, place in zip(system, before[0])
            if task.name != move[1] and place != 0 and place not in task.holds}


class Drawn(unittest.TestCase):
    def test_moves_of_drawn_systems(self):
        draw = random.Random(40)
        seen = {}
        for _ in range(700):
            system = drawn_system(draw)
            world, unit, units = World(system), Unit.of_all(system), units_of(system)
            items, state = items_of(system), unit.start
            parts = [part.start for part in units]
            for _ in range(25):
                self.assertTrue(same(state, world.state(items)), str(system))
                enabled = list(unit.moves(state))
                self.assertTrue(same(enabled, world.enabled()), str(system))
                if not enabled:
                    break
                steps = [move for move in enabled if move[0] == "step"]
                move = draw.choice(steps if steps and draw.random() < 0.6 else enabled)
                parts = self.check_units(unit, units, state, parts, move)
                state, faults = unit.after(state, move)
                self.assertTrue(same(faults, world.do(move)), (move, str(system)))
                for fault in faults:
                    seen[fault[0]] = seen.get(fault[0], 0) + 1
        self.assertEqual([word for word in ("barred", "extra", "lost", "moved", "parted", "torn")
                          if seen.get(word, 0) < 10], [], seen)

    def check_units(self, unit, units, state, parts, move):
        """A move over units is the part of the move over all items; the states over the units behind it."""
        behind, told = unit.after(state, move)
        found, faults = [], set()
        for part, at in zip(units, parts):
            self.assertTrue(same(part.project(state, unit), at))
            mine = [each for each in unit.moves(state) if each[0] == "step" or ("bit", *each[1:]) in part]
            self.assertEqual(list(part.moves(at)), mine)
            after, wrong = part.after(at, move) if move in mine else (at, ())
            self.assertEqual(wrong, tuple(fault for fault in told if self.is_within(fault, part)))
            found.append(after)
            faults |= set(wrong)
        self.assertEqual(faults, set(told))
        return found

    def is_within(self, fault, unit):
        """Whether the bits, variable bits and marks of a fault are all among the items."""
        word, *rest = fault
        if word == "extra":
            return ("var", *rest) in unit
        if word == "parted":
            return ("bit", rest[0], rest[2]) in unit and ("bit", rest[1], rest[2]) in unit
        if word == "torn":
            return all(("mark", rest[0], name, rest[3]) in unit for name in rest[1:3])
        return ("bit", *rest) in unit

    def test_runs_under_holds_are_those_that_use_none_of_the_gaps(self):
        draw = random.Random(41)
        kept = 0
        for _ in range(150):
            system = drawn_system(draw)
            gaps = [gap for gap in system.gaps if draw.random() < 0.5]
            free, held = Unit.of_all(system), Unit.of_all(system.with_holds(*gaps))
            state = free.start
            self.assertEqual(state, held.start)
            for _ in range(25):
                enabled = list(free.moves(state))
                left = [move for move in enabled if not used_gaps(system, state, move) & set(gaps)]
                self.assertEqual(list(held.moves(state)), left)
                kept += len(enabled) - len(left)
                if not left:
                    break
                move = draw.choice(left)
                self.assertEqual(free.after(state, move), held.after(state, move))
                state, faults = free.after(state, move)
        self.assertGreater(kept, 50)


if __name__ == "__main__":
    unittest.main()
