import random
import re
import unittest
from itertools import combinations

from drawn import drawn_system
from keptbits.blends import Blend
from keptbits.errors import (BitError, InvalidField, InvalidMap, InvalidShift, InvalidStep, InvalidSystem, InvalidTask,
                             InvalidText, InvalidWidth, InvalidWord)
from keptbits.fields import Field, KeyRegister, Register
from keptbits.maps import DeviceMap
from keptbits.steps import Pair, Read, Serve, Write
from keptbits.systems import System
from keptbits.tasks import Task
from samples import ODD_VALUES, refused, same

EXAMPLE = """width 8
port S
field READY 0 1 keep clear1 raise 0
task main 0 0 hold 2
read a S w
write S w a 0 255 0 means READY
serve a 1"""
LARGE = """width 32
port CTRL whole
field LK 31 1 keep once still 1 lock LK
field GO 3 2 take set1 end 3 lock LK key UNLOCK
port OUT
key UNLOCK 7 0 4294967295
port TIME
field HIGH 0 8 keep none drift 200 held LOW
field LOW 8 1 keep flip1 raise 0
field PWM 12 2 keep store still 1 lock LK key UNLOCK commit LOW
field BACK 14 2 keep store still 1
task tick 3 9 hold 1 2
read z TIME w means HIGH LOW PWM
read y TIME b0
pair z y HIGH
task a 0 1
write UNLOCK w 7
read b CTRL h1
write CTRL h1 b -5 2047 9 means GO LK
write TIME b3 b 0 1 0
serve b 4294967295
task idle 0 0
write OUT w 0
mirror PWM BACK
mirror BACK PWM"""
WORDS = {
    "number": "0|[1-9][0-9]{0,9}", "shift": "-[1-9][0-9]{0,9}|0|[1-9][0-9]{0,9}", "name": "[A-Z][A-Z0-9_]{0,7}",
    "task": "[a-z]{1,8}", "variable": "[a-z]", "lane": "w|b0|b1|b2|b3|h0|h1", "reading": "keep|take",
    "writing": "store|clear1|clear0|set1|flip1|once|none", "device": "still|raise|end|drift",
}
# For each first word: whether it must stand behind others directly, and the forms of its line.
OPTIONS = [[part for word in row for part in (word, "name")] for size in range(5)
           for row in combinations(("=lock", "=key", "=commit", "=held"), size)]
MEANS = [[]] + [["=means"] + ["name"] * size for size in range(1, 12)]
FORMS = {
    "width": [["number"]],
    "port": [["name"], ["name", "=whole"]],
    "field": [["name", "number", "number", "reading", "writing", "device", "number"] + row for row in OPTIONS],
    "key": [["name"] + ["number"] * size for size in range(1, 12)],
    "task": [["task", "number", "number"] + row for row in
             [[]] + [["=hold"] + ["number"] * size for size in range(1, 12)]],
    "read": [["variable", "name", "lane"] + row for row in MEANS],
    "write": [["name", "lane"] + row + rest for row in (["number"], ["variable", "shift", "number", "number"])
              for rest in MEANS],
    "serve": [["variable", "number"]],
    "pair": [["variable", "variable", "name"]],
    "mirror": [["name", "name"]],
}
STEPS = ("read", "write", "serve", "pair")
# Words of all sorts, and some that are none.
SOME = ("0", "7", "10", "00", "01", "-1", "-0", "-", "+1", "1.0", "9999999999", "10000000000", "-9999999999", "", "A",
        "Ab", "a", "main", "abcdefghi", "ABCDEFGHI", "A_9", "9A", "w", "b3", "b4", "h1", "h2", "keep", "take", "store",
        "once", "still", "drift", "keep store still", "whole", "hold", "means", "lock", "key", "commit", "held", "width",
        "port", "field", "task", "read", "write", "serve", "pair", "mirror", "Width", "#", "\\", "~")


def may_follow(before, word):
    """Whether a line with this first word can stand behind the lines with those."""
    if not before:
        return word == "width"
    if word in ("port", "key"):
        return not set(before) & {"task", *STEPS, "mirror"}
    if word == "field":
        return before[-1] in ("port", "field")
    if word == "task":
        return "mirror" not in before
    if word in STEPS:
        return before[-1] in ("task", *STEPS)
    return word == "mirror"


def is_sort(word, sort):
    return word == sort[1:] if sort[0] == "=" else bool(re.fullmatch(WORDS[sort], word))


def told(text):
    """The (line, word) of the fault of a text's form, or None: by the forms that begin with all words so far."""
    before = []
    for number, line in enumerate(text.split("\n")):
        words = line.split(" ")
        if not may_follow(before, words[0]):
            return number, 0
        forms = FORMS[words[0]]
        for index, word in enumerate(words[1:]):
            forms = [form for form in forms if index < len(form) and is_sort(word, form[index])]
            if not forms:
                return number, index + 1
        if not [form for form in forms if len(form) == len(words) - 1]:
            return number, len(words)
        before.append(words[0])
    return None


def refuse_text(test, text, line, word):
    refused(test, InvalidText, {"line": line, "word": word}, System.of_text, text)


def large():
    """The system of the large text, made of its parts."""
    ports = [
        Register("CTRL", Field("LK", 31, 1, writing="once", reset=1, lock="LK"),
                 Field("GO", 3, 2, reading="take", writing="set1", device="end", reset=3, lock="LK", key="UNLOCK"),
                 whole=True),
        Register("OUT"), KeyRegister("UNLOCK", 7, 0, 2 ** 32 - 1),
        Register("TIME", Field("HIGH", 0, 8, writing="none", device="drift", reset=200, held="LOW"),
                 Field("LOW", 8, 1, writing="flip1", device="raise"),
                 Field("PWM", 12, 2, reset=1, lock="LK", key="UNLOCK", commit="LOW"), Field("BACK", 14, 2, reset=1)),
    ]
    tick = Task("tick", Read("z", "TIME", "w", "PWM", "LOW", "HIGH"), Read("y", "TIME", "b0"), Pair("z", "y", "HIGH"),
                core=3, rank=9, holds=(1, 2))
    blend = ((Blend(32) >> 5) & 2047) ^ 9
    a = Task("a", Write("UNLOCK", "w", Blend.constant(32, 7)), Read("b", "CTRL", "h1"),
             Write("CTRL", "h1", blend, "LK", "GO", variable="b"), Write("TIME", "b3", Blend(32) & 1, variable="b"),
             Serve("b", 2 ** 32 - 1), rank=1)
    return System(DeviceMap(32, *ports), tick, a, Task("idle", Write("OUT", "w", Blend.constant(32, 0))),
                  mirrors=(("PWM", "BACK"), ("BACK", "PWM")))


class Good(unittest.TestCase):
    def test_example(self):
        layout = DeviceMap(8, Register("S", Field("READY", 0, 1, writing="clear1", device="raise")))
        steps = (Read("a", "S", "w"), Write("S", "w", Blend(8), "READY", variable="a"), Serve("a", 1))
        system = System(layout, Task("main", *steps, holds=(2,)))
        self.assertTrue(same(str(system), EXAMPLE))
        for made in (System.of_text(EXAMPLE), System.of_text(text=EXAMPLE)):
            self.assertEqual(made, system)
            self.assertIs(made.__class__, System)
        refuse_text(self, EXAMPLE.replace("a S w", "a S  w"), 4, 3)
        refuse_text(self, EXAMPLE.replace("serve a 1", "serve a"), 6, 2)
        refused(self, InvalidSystem, {"name": "main", "index": 2, "reason": "loaded"}, System.of_text,
                EXAMPLE.replace("serve a 1", "serve b 1"))

    def test_every_sort_of_line(self):
        self.assertTrue(same(str(large()), LARGE))
        self.assertEqual(System.of_text(LARGE), large())

    def test_drawn_systems(self):
        draw = random.Random(20)
        for _ in range(300):
            system = drawn_system(draw)
            text = str(system)
            self.assertIs(told(text), None)
            self.assertEqual(System.of_text(text), system)
            self.assertEqual(str(System.of_text(text)), text)

    def test_what_differs_from_the_text_that_was_read(self):
        base = LARGE.replace("means HIGH LOW PWM", "means PWM HIGH LOW").replace("means GO LK", "means LK GO")
        self.assertEqual(str(System.of_text(base)), LARGE)
        # numbers of equal blends: bits of the keep that nothing is shifted to
        wide = LARGE.replace("b -5 2047 9", "b -5 4160751615 9")
        self.assertEqual(System.of_text(wide), System.of_text(LARGE))
        self.assertEqual(str(System.of_text(wide)), LARGE)

    def test_fields_behind_means(self):
        text = EXAMPLE.replace("means READY", "means READY READY")
        refused(self, InvalidStep, {"reason": "means"}, System.of_text, text)


class Forms(unittest.TestCase):
    def check(self, text):
        """The form of a text is judged as the lists of forms tell; 1 if it is wrong."""
        fault = told(text)
        if fault is not None:
            refuse_text(self, text, *fault)
            return 1
        try:
            System.of_text(text)
        except InvalidText as error:
            self.fail(f"{error.line} {error.word} for {text!r}")
        except BitError:
            pass
        return 0

    def test_no_texts(self):
        for value in (*ODD_VALUES, [EXAMPLE], (EXAMPLE,), {EXAMPLE: 1}, 0):
            # the strings among them have no width line
            refuse_text(self, value, 0, 0)

    def test_each_word_is_another_one(self):
        wrong = 0
        for text in (EXAMPLE, LARGE):
            lines = [line.split(" ") for line in text.split("\n")]
            for number, words in enumerate(lines):
                for index in range(len(words)):
                    for word in SOME:
                        row = " ".join([*words[:index], word, *words[index + 1:]])
                        changed = [" ".join(line) for line in lines]
                        changed[number] = row
                        wrong += self.check("\n".join(changed))
        self.assertGreater(wrong, 3000)

    def test_words_more_and_words_less(self):
        for text in (EXAMPLE, LARGE):
            lines = [line.split(" ") for line in text.split("\n")]
            for number, words in enumerate(lines):
                rows = [words[:index] + words[index + 1:] for index in range(len(words))]
                rows += [words[:index] for index in range(1, len(words))]
                rows += [[*words[:index], word, *words[index:]] for index in range(len(words) + 1)
                         for word in ("", "0", "A", "a", "w", "means", "hold", "whole", "lock", "held", words[0])]
                rows += [[*words, "means"], [*words, "means", "A", "B", "C"], [*words, "lock", "A", "lock", "B"],
                         [*words, "held", "A", "lock", "A"], [*words, "key"], [*words, "hold", "0", "0"]]
                for row in rows:
                    changed = [" ".join(line) for line in lines]
                    changed[number] = " ".join(row)
                    self.check("\n".join(changed))

    def test_lines_in_other_places(self):
        draw = random.Random(21)
        lines = LARGE.split("\n")
        for number, line in enumerate(lines):
            rest = lines[:number] + lines[number + 1:]
            self.check("\n".join(rest))
            for place in range(len(lines)):
                self.check("\n".join(rest[:place] + [line] + rest[place:]))
                self.check("\n".join(lines[:place] + [line] + lines[place:]))
                self.check("\n".join(lines[:place] + [""] + lines[place:]))
        for _ in range(300):
            self.check("\n".join(draw.sample(lines, draw.randint(1, 8))))
            self.check("\n".join(["width 8", *draw.choices(lines[1:], k=draw.randint(1, 6))]))

    def test_some_faults(self):
        for text, line, word in (
                ("", 0, 0), ("\n", 0, 0), (" width 8", 0, 0), ("width", 0, 1), ("width ", 0, 1), ("width 8 ", 0, 2),
                ("width 08", 0, 1), ("width 12345678901", 0, 1), ("width 8\n", 1, 0), ("width 8\n\nport S", 1, 0),
                ("width 8\nwidth 8", 1, 0), ("width 8\nfield A 0 1 keep store still 0", 1, 0), ("port S", 0, 0),
                ("width 8\nport S whole whole", 1, 3), ("width 8\nport S hole", 1, 2), ("width 8\nport", 1, 1),
                ("width 8\nkey K", 1, 2), ("width 8\nkey K 1 2 x", 1, 4), ("width 8\nkey K 1\nfield A", 2, 0),
                ("width 8\nread a S w", 1, 0), ("width 8\ntask a 0 0 hold", 1, 5), ("width 8\ntask a 0 0 1", 1, 4),
                ("width 8\ntask a 0 0\nread a S w means", 2, 5), ("width 8\ntask a 0 0\nread a S w A", 2, 4),
                ("width 8\ntask a 0 0\nread a S w means A means", 2, 6), ("width 8\ntask a 0 0\nwrite S w", 2, 3),
                ("width 8\ntask a 0 0\nwrite S w a", 2, 4), ("width 8\ntask a 0 0\nwrite S w a -0", 2, 4),
                ("width 8\ntask a 0 0\nwrite S w a 0 1", 2, 6), ("width 8\ntask a 0 0\nwrite S w a 0 1 -1", 2, 6),
                ("width 8\ntask a 0 0\nwrite S w a 0 1 0 A", 2, 7), ("width 8\ntask a 0 0\nwrite S w 1 0 1 0", 2, 4),
                ("width 8\ntask a 0 0\nwrite S w -1", 2, 3), ("width 8\ntask a 0 0\nport S", 2, 0),
                ("width 8\nmirror A B\ntask a 0 0", 2, 0), ("width 8\nmirror A B C", 1, 3), ("width 8\nmirror A", 1, 2),
                ("width 8\nmirror A B\nread a S w", 2, 0), ("width 8\nports S", 1, 0), ("Width 8", 0, 0)):
            refuse_text(self, text, line, word)
            self.assertEqual(told(text), (line, word))

    def test_the_first_line_is_told(self):
        lines = LARGE.split("\n")
        for first, second in combinations(range(1, len(lines)), 2):
            changed = list(lines)
            changed[first] += " "
            changed[second] = "nothing"
            self.check("\n".join(changed))


class Errors(unittest.TestCase):
    def refuse(self, error, attributes, *lines):
        refused(self, error, attributes, System.of_text, "\n".join(lines))

    def test_the_form_of_all_lines_comes_first(self):
        self.refuse(InvalidText, {"line": 3, "word": 0}, "width 9", "port S", "field A 32 1 keep store still 0", "x")

    def test_errors_in_the_order_of_the_lines(self):
        field, key = "field A 40 1 keep store still 0", "key K 4294967296"
        self.refuse(InvalidField, {"name": "A", "reason": "place"}, "width 9", "port S", field, key, "task a 4 0")
        self.refuse(InvalidMap, {"name": "K", "reason": "constants"}, "width 9", key, "port S", field, "task a 4 0")
        self.refuse(InvalidMap, {"name": "K", "reason": "constants"}, "width 9", "key K 1 2 3 4")
        self.refuse(InvalidWidth, {"value": 9}, "width 9", "port S", "port S", "task a 4 0")
        self.refuse(InvalidMap, {"name": "S", "reason": "name"}, "width 8", "port S", "port S", "task a 4 0")
        self.refuse(InvalidMap, {"name": None, "reason": "registers"}, "width 8", "task a 4 0")
        self.refuse(InvalidMap, {"name": "K", "reason": "constants"}, "width 8", "key K 256", "task a 4 0")
        ports = ("width 8", "port S", "field A 0 1 keep store still 0")
        self.refuse(InvalidTask, {"name": "a", "reason": "steps"}, *ports, "task a 0 0", "task b 0 0", "serve a 0")
        self.refuse(InvalidTask, {"name": "a", "reason": "core"}, *ports, "task a 4 0", "serve a 1", "task b 0 0")
        self.refuse(InvalidTask, {"name": "a", "reason": "rank"}, *ports, "task a 0 10", "serve a 1")
        self.refuse(InvalidTask, {"name": "a", "reason": "holds"}, *ports, "task a 0 0 hold 1", "serve a 1")
        self.refuse(InvalidStep, {"reason": "mask"}, *ports, "task a 4 0", "serve a 0")
        self.refuse(InvalidStep, {"reason": "second"}, *ports, "task a 0 0", "read a S w", "pair a a A")
        self.refuse(InvalidSystem, {"name": "", "index": 0, "reason": "tasks"}, *ports, "mirror A A")
        self.refuse(InvalidSystem, {"name": "", "index": 0, "reason": "mirrors"}, *ports, "task a 0 0", "read a S w",
                    "mirror A A")
        self.refuse(InvalidSystem, {"name": "a", "index": 0, "reason": "port"}, *ports, "task a 0 0", "read a T w",
                    "mirror A A")

    def test_errors_of_blends(self):
        head = ("width 8", "port S", "task a 0 0", "read a S w")
        self.refuse(InvalidWord, {"value": 256}, *head, "write S w 256 means A A")
        self.refuse(InvalidShift, {"value": 9}, *head, "write S w a 9 256 256 means A A")
        self.refuse(InvalidShift, {"value": -9}, *head, "write S w a -9 256 256")
        self.refuse(InvalidWord, {"value": 300}, *head, "write S w a 8 300 256")
        self.refuse(InvalidWord, {"value": 256}, *head, "write S w a 8 255 256", "serve a 0")
        self.refuse(InvalidStep, {"reason": "means"}, *head, "write S w a 8 255 0 means A A")
        self.refuse(InvalidStep, {"reason": "variable"}, *head, "write S w a 8 255 0 means A")
        self.refuse(InvalidStep, {"reason": "variable"}, *head, "write S w a 0 0 5")

    def test_fields_of_a_register_come_ahead_of_it(self):
        self.refuse(InvalidField, {"name": "B", "reason": "reset"}, "width 8", "port S",
                    "field A 0 1 keep store still 0", "field B 1 1 keep store still 2", "port S",
                    "field C 0 40 keep store still 0")
        self.refuse(InvalidField, {"name": "B", "reason": "commit"}, "width 8", "port S",
                    "field B 1 1 keep store drift 0 lock X key Y commit Z")
        self.refuse(InvalidField, {"name": "B", "reason": "held"}, "width 8", "port S",
                    "field B 1 1 keep none drift 0 lock X key Y commit Z held H")


if __name__ == "__main__":
    unittest.main()
