"""The texts of systems: their lines, read and written."""

from keptbits.blends import Blend
from keptbits.errors import InvalidText
from keptbits.fields import WIDEST, Field, KeyRegister, Register
from keptbits.kinds import Kind
from keptbits.maps import DeviceMap
from keptbits.steps import Pair, Read, Serve, Write
from keptbits.tasks import Task
from keptbits.words import is_name, is_task_name, is_variable, lanes_of

DIGITS = "0123456789"
MOST_DIGITS = 10
STEPS = ("read", "write", "serve", "pair")
OPTIONS = ("lock", "key", "commit", "held")
# For the first word of each line, those with which the next line can begin.
FOLLOWERS = {
    "": ("width",),
    "width": ("port", "key", "task", "mirror"),
    "port": ("port", "key", "field", "task", "mirror"),
    "field": ("port", "key", "field", "task", "mirror"),
    "key": ("port", "key", "task", "mirror"),
    "task": ("task", "read", "write", "serve", "pair", "mirror"),
    "read": ("task", "read", "write", "serve", "pair", "mirror"),
    "write": ("task", "read", "write", "serve", "pair", "mirror"),
    "serve": ("task", "read", "write", "serve", "pair", "mirror"),
    "pair": ("task", "read", "write", "serve", "pair", "mirror"),
    "mirror": ("mirror",),
}
# For the first word of each line, the sorts of the words that must follow.
FORMS = {
    "width": ("number",),
    "port": ("name",),
    "field": ("name", "number", "number", "reading", "writing", "device", "number"),
    "key": ("name", "number"),
    "task": ("task", "number", "number"),
    "read": ("variable", "name", "lane"),
    "write": ("name", "lane", "number"),
    "serve": ("variable", "number"),
    "pair": ("variable", "variable", "name"),
    "mirror": ("name", "name"),
}
BLEND_FORM = ("name", "lane", "variable", "shift", "number", "number")
# For the first words of lines that can be longer: the word that begins the rest, and the sort of all words behind it.
TAILS = {"task": ("hold", "number"), "read": ("means", "name"), "write": ("means", "name")}


def is_number(word, most):
    """Whether a word is a number in decimal digits, at most so many."""
    if not 1 <= len(word) <= most or not all([digit in DIGITS for digit in word]):
        return False
    return word == "0" or word[0] != "0"


def is_shift(word):
    """Whether a word is a number, perhaps one below 0."""
    if word.startswith("-"):
        return word != "-0" and is_number(word[1:], MOST_DIGITS)
    return is_number(word, MOST_DIGITS)


def fits(word, sort):
    """Whether a word is one of a sort."""
    if sort == "number":
        return is_number(word, MOST_DIGITS)
    if sort == "shift":
        return is_shift(word)
    if sort == "name":
        return is_name(word)
    if sort == "task":
        return is_task_name(word)
    if sort == "variable":
        return is_variable(word)
    if sort == "lane":
        return word in lanes_of(WIDEST)
    if sort == "reading":
        return word in Kind.READINGS
    if sort == "writing":
        return word in Kind.WRITINGS
    return word in Kind.DEVICES


def first_misfit(words, at, sort):
    """The index of the first word from index `at` on that is not of a sort, or None."""
    for index in range(at, len(words)):
        if not fits(words[index], sort):
            return index
    return None


def form_of(words):
    """The sorts of the words that must follow the first word of a line."""
    if words[0] == "write" and len(words) > 3 and is_variable(words[3]):
        return BLEND_FORM
    return FORMS[words[0]]


def options_fault(words, at):
    """The index of the first word from index `at` on that is no option or name where one must be, or None."""
    left = OPTIONS
    while at < len(words):
        if words[at] not in left:
            return at
        left = left[left.index(words[at]) + 1:]
        if at + 1 == len(words) or not is_name(words[at + 1]):
            return at + 1
        at = at + 2
    return None


def rest_fault(words, at):
    """The index of the first wrong word from index `at` on, where a line may end, or None."""
    if at == len(words):
        return None
    head = words[0]
    if head == "key":
        return first_misfit(words, at, "number")
    if head == "field":
        return options_fault(words, at)
    if head == "port" and words[at] == "whole":
        return at + 1 if at + 1 < len(words) else None
    if head not in TAILS or words[at] != TAILS[head][0]:
        return at
    if at + 1 == len(words):
        return at + 1
    return first_misfit(words, at + 1, TAILS[head][1])


def word_fault(words):
    """The index of the first word of a line that is wrong or lacking, or None."""
    form = form_of(words)
    for index, sort in enumerate(form, 1):
        if index == len(words) or not fits(words[index], sort):
            return index
    return rest_fault(words, 1 + len(form))


def lines_of(text):
    """The list of the lines of a text, each the list of its words; raise InvalidText unless their form is right."""
    if not isinstance(text, str):
        raise InvalidText(0, 0)
    lines = [line.split(" ") for line in text.split("\n")]
    before = ""
    for number, words in enumerate(lines):
        if words[0] not in FOLLOWERS[before]:
            raise InvalidText(number, 0)
        fault = word_fault(words)
        if fault is not None:
            raise InvalidText(number, fault)
        before = words[0]
    return lines


def with_members(lines, heads, members):
    """The list of (line, lines) for each line of some heads and the lines of their members behind it."""
    found = []
    for words in lines:
        if words[0] in heads:
            found.append((words, []))
        elif words[0] in members:
            found[-1][1].append(words)
    return found


def field_of(words):
    """The field of a line."""
    options = {words[k]: words[k + 1] for k in range(8, len(words), 2)}
    return Field(words[1], int(words[2]), int(words[3]), reading=words[4], writing=words[5], device=words[6],
                 reset=int(words[7]), lock=options.get("lock"), key=options.get("key"),
                 commit=options.get("commit"), held=options.get("held"))


def port_of(words, lines):
    """The register of a line and the lines of its fields."""
    if words[0] == "key":
        return KeyRegister.of(words[1], [int(word) for word in words[2:]])
    return Register.of(words[1], [field_of(line) for line in lines], whole=len(words) > 2)


def write_of(width, words):
    """The Write of a line, for a map of this width."""
    if form_of(words) == BLEND_FORM:
        blend = Blend(width, int(words[4]), int(words[5]), int(words[6]))
        return Write.of(words[1], words[2], blend, words[8:], words[3])
    blend = Blend.constant(width, int(words[3]))
    return Write.of(words[1], words[2], blend, words[5:])


def step_of(width, words):
    """The step of a line, for a map of this width."""
    if words[0] == "read":
        return Read.of(words[1], words[2], words[3], words[5:])
    if words[0] == "write":
        return write_of(width, words)
    if words[0] == "serve":
        return Serve(words[1], int(words[2]))
    return Pair(words[1], words[2], words[3])


def task_of(width, words, lines):
    """The task of a line and the lines of its steps, for a map of this width."""
    steps = [step_of(width, line) for line in lines]
    holds = tuple([int(word) for word in words[5:]])
    return Task.of(words[1], steps, core=int(words[2]), rank=int(words[3]), holds=holds)


def parts_of_text(text):
    """(map, list of tasks, mirrors) of a text; raise InvalidText, or the errors of the parts in their order."""
    lines = lines_of(text)
    ports = [port_of(words, rest) for words, rest in with_members(lines, ("port", "key"), ("field",))]
    layout = DeviceMap.of(int(lines[0][1]), ports)
    tasks = [task_of(layout.width, words, rest) for words, rest in with_members(lines, ("task",), STEPS)]
    mirrors = tuple([(words[1], words[2]) for words in lines if words[0] == "mirror"])
    return layout, tasks, mirrors


def field_line(field):
    """The line of a field."""
    options = [("lock", field.lock), ("key", field.key), ("commit", field.commit), ("held", field.held)]
    words = [f"field {field.name} {field.low} {field.size} {field.kind} {field.reset}"]
    return " ".join(words + [f"{option} {name}" for option, name in options if name is not None])


def port_lines(port):
    """The list of the lines of a register."""
    if isinstance(port, KeyRegister):
        return [" ".join(["key", port.name] + [str(number) for number in port.constants])]
    head = f"port {port.name} whole" if port.whole else f"port {port.name}"
    return [head] + [field_line(field) for field in port.fields]


def task_lines(task):
    """The list of the lines of a task."""
    words = ["task", task.name, str(task.core), str(task.rank)]
    holds = ["hold"] + [str(gap) for gap in task.holds] if task.holds != () else []
    return [" ".join(words + holds)] + [str(step) for step in task.steps]


def text_lines(layout, tasks, mirrors):
    """The list of the lines of a system's text."""
    ports = [line for port in layout.registers for line in port_lines(port)]
    rows = [line for task in tasks for line in task_lines(task)]
    return [f"width {layout.width}"] + ports + rows + [f"mirror {first} {second}" for first, second in mirrors]
