"""The desk: lines that are carried out on a system and a machine of it."""

from keptbits.effects import Effect
from keptbits.errors import NoSystem
from keptbits.holds import fewest_holds
from keptbits.judge import judge
from keptbits.kinds import Kind
from keptbits.machine import LoggedMachine
from keptbits.neutral import neutral_write
from keptbits.phrases import NONE, item_word, phrase, phrases, words_of
from keptbits.systems import System
from keptbits.units import units_of

OK = "ok"
# what stands in a line of a desk in place of a newline of a text
BREAK = " / "


def text_answer(machine, words):
    """The text of the system."""
    return str(machine.system).replace("\n", BREAK)


def moved(machine, move):
    """What is said of a move that is made: its faults."""
    wrongs = machine.do(move)
    return OK if wrongs == () else phrases(wrongs)


def step_answer(machine, words):
    """The faults of a step of a task."""
    return moved(machine, ("step", words[1]))


def device_answer(machine, words):
    """The faults of a deed of the device."""
    return moved(machine, ("device", words[1], int(words[2])))


def back_answer(machine, words):
    """What is said when moves are taken back."""
    machine.back(int(words[1]))
    return OK


def moves_answer(machine, words):
    """The enabled moves."""
    return phrases(list(machine.moves()))


def places_answer(machine, words):
    """The name and the place of each task."""
    return phrases([(task.name, place) for task, place in zip(machine.system.tasks, machine.places)])


def value_answer(machine, words):
    """The value of a field."""
    return str(machine[words[1]])


def units_answer(machine, words):
    """The items of each unit."""
    units = [phrase([item_word(item) for item in unit.members]) for unit in units_of(machine.system)]
    return NONE if len(units) == 0 else ", ".join(units)


def judge_answer(machine, words):
    """The verdict about the system."""
    verdict = judge(machine.system)
    if verdict.is_safe:
        return phrase(["safe"] + [len(table) for table in verdict.tables])
    return f"bad {phrases(verdict.run)} : {phrases(verdict.faults)}"


def holds_answer(machine, words):
    """The gaps of the system that must be held."""
    found = fewest_holds(machine.system)
    if not found.can_help:
        return f"never {phrases(found.run)}"
    return NONE if len(found) == 0 else phrases(found.chosen)


def neutral_answer(machine, words):
    """The word and the mask of a neutral write."""
    means = words[3:]
    return phrase(neutral_write(machine.system.layout, words[1], words[2], *means))


def effect_answer(words):
    """The states of a kind and the ends of letters from each."""
    kind = Kind(words[1], words[2], words[3])
    effect = Effect.of(kind, "" if words[4] == NONE else words[4])
    ends = [(state, ",".join([str(end) for end in effect(state)])) for state in kind.states]
    return " ".join([f"{state}>{told}" for state, told in ends])


# For the first words of the lines that need a system, what answers them.
ANSWERS = {
    "text": text_answer,
    "step": step_answer,
    "device": device_answer,
    "back": back_answer,
    "moves": moves_answer,
    "places": places_answer,
    "value": value_answer,
    "units": units_answer,
    "judge": judge_answer,
    "holds": holds_answer,
    "neutral": neutral_answer,
}


class Desk:
    """A machine, once there is one, and the lines that are carried out on it."""

    def __init__(self):
        self.machine = None

    def say(self, line):
        """Carry out a line, and return its answer."""
        words = words_of(line)
        if words[0] == "system":
            text = " ".join(words[1:])
            self.machine = LoggedMachine(System.of_text(text.replace(BREAK, "\n")))
            return OK
        if words[0] == "effect":
            return effect_answer(words)
        if self.machine is None:
            raise NoSystem()
        answer = ANSWERS[words[0]]
        return answer(self.machine, words)

    def say_all(self, *lines):
        """Carry out all lines or, if one raises, none; return the list of their answers."""
        other = Desk()
        other.machine = None if self.machine is None else self.machine.twin()
        answers = [other.say(line) for line in lines]
        self.machine = other.machine
        return answers
