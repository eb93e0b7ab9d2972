"""A shell: a house that is edited and asked by lines of words."""

from heardlate.base.names import is_name
from heardlate.base.texts import delay_word, number_in
from heardlate.drive.moves import verdicts
from heardlate.errors import InvalidCommand, UnknownName
from heardlate.facts.decided import is_driven, paper_of
from heardlate.house.house import House
from heardlate.margins.margins import margin
from heardlate.plans.plans import Plan
from heardlate.runs.runs import Run
from heardlate.tasks.tasks import Task, compiled
from heardlate.text.formats import format_paper, format_plan, format_run

_LARGEST = 999
# What the words behind the first one are; more names or a text may follow only where it says so.
_FORMS = {
    "plan": ("name", "number"),
    "tasks": ("name", "number", "text"),
    "event": ("name", "name"),
    "step": ("name", "name", "name", "number", "number", "delay"),
    "bound": ("name", "name", "name", "number"),
    "unbound": ("name", "name", "name"),
    "run": ("name", "name"),
    "hear": ("name", "names"),
    "do": ("name", "names"),
    "wait": ("name", "number"),
    "show": ("name",),
    "driven": ("name",),
    "paper": ("name",),
    "verdicts": ("name",),
    "margin": ("name", "question"),
    "undo": (),
    "redo": (),
    "names": (),
}
_EDITING = ("plan", "tasks", "event", "step", "bound", "unbound", "run", "hear", "do", "wait")
_QUESTION_SIZES = {"delay": 1, "least": 1, "most": 1, "bound": 2, "all": 0}


class Shell:
    """A shell with a house of its own."""

    def __init__(self):
        self._house = House()

    def house(self):
        """An independent house in the same state."""
        return self._house.twin()

    def do(self, line):
        """Does what a command says and returns its answer."""
        word, values = _command_in(line)
        if word in _EDITING:
            self._house.apply(_edit_by(self._house, word, values))
            return "ok"
        if word == "undo":
            self._house.undo()
            return "ok"
        if word == "redo":
            self._house.redo()
            return "ok"
        return _answer_to(self._house, word, values)

    def do_all(self, lines):
        """Yields the answers to the commands of a tuple; each is done when its answer is asked for."""
        if not isinstance(lines, tuple):
            raise InvalidCommand("commands are a tuple of lines")
        for line in lines:
            yield self.do(line)

    def __str__(self):
        return f"shell with {len(self._house)} names"


def _command_in(line):
    """The first word of a command and the values of the others."""
    words = line.split(" ") if isinstance(line, str) else [""]
    if "" in words or words[0] not in _FORMS:
        raise InvalidCommand("a command is a word that is known, and others, with single blanks")
    form = _FORMS[words[0]]
    if len(form) > 0 and form[-1] in ("names", "question", "text"):
        place = len(form)
        values = _values_in(form[:-1], words[1:place])
        return words[0], values + [_rest_in(form[-1], words[place:])]
    return words[0], _values_in(form, words[1:])


def _values_in(form, words):
    if len(words) != len(form):
        raise InvalidCommand("a command of this form has another number of words")
    return [_value_in(kind, word) for kind, word in zip(form, words)]


def _value_in(kind, word):
    if kind == "name":
        if not is_name(word):
            raise InvalidCommand("this is no name")
        return word
    if kind == "delay" and word == "never":
        return None
    number = number_in(word)
    if number is None or abs(number) > _LARGEST:
        raise InvalidCommand("this is no number of at most three digits")
    return number


def _rest_in(kind, words):
    """What any number of words at the end of a command are."""
    if kind == "text":
        if len(words) == 0:
            raise InvalidCommand("there is no text")
        return " ".join(words)
    names = words
    if kind == "question":
        if len(words) == 0 or words[0] not in _QUESTION_SIZES or len(words) != _QUESTION_SIZES[words[0]] + 1:
            raise InvalidCommand("this is no question")
        names = words[1:]
    if not all([is_name(name) for name in names]):
        raise InvalidCommand("this is no name")
    return tuple(words)


def _edit_by(house, word, values):
    """The edit that a command makes."""
    name = values[0]
    if word == "plan":
        return "plan", name, Plan(values[1])
    if word == "tasks":
        return "plan", name, compiled(Task.read(values[2]), horizon=values[1])
    if word == "event":
        return "plan", name, _plan_called(house, name).with_event(values[1])
    if word == "step":
        _, end, begin, least, most, delay = values
        return "plan", name, _plan_called(house, name).with_step(end, begin, least, most, delay)
    if word == "unbound":
        return "bound", name, values[1], values[2], None
    return (word, *values)


def _answer_to(house, word, values):
    """The answer to a command that changes nothing."""
    if word == "names":
        kinds = [f"{name} plan" for name in house.plans] + [f"{name} run" for name in house.runs]
        return ", ".join(sorted(kinds)) or "-"
    name = values[0]
    if word == "show":
        return _text_of(house[name])
    if word == "driven":
        return _driven_word(house[name])
    if word == "verdicts":
        told = verdicts(_run_called(house, name))
        return ", ".join([f"{event} {told[event]}" for event in told]) or "-"
    plan = _plan_called(house, name)
    if word == "paper":
        return format_paper(plan, paper_of(plan))
    return delay_word(margin(plan, values[1]))


def _text_of(value):
    return format_run(value) if isinstance(value, Run) else format_plan(value)


def _driven_word(value):
    plan = value.rest if isinstance(value, Run) else value
    return "driven" if is_driven(plan) else "refuted"


def _plan_called(house, name):
    plans = house.plans
    if name not in plans:
        raise UnknownName(name)
    return plans[name]


def _run_called(house, name):
    runs = house.runs
    if name not in runs:
        raise UnknownName(name)
    return runs[name]
