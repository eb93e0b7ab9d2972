"""Houses: plans and runs that are edited, with watches, undone edits and trials."""

from heardlate.base.integers import is_between, is_integer
from heardlate.base.names import is_name
from heardlate.errors import InvalidEdit, InvalidNumber, InvalidOperation, NothingToUndo, UnknownName
from heardlate.house.edits import edited
from heardlate.house.pasts import Past
from heardlate.house.stocks import Stock
from heardlate.house.watches import answer_in, answers_behind, copied, is_watch_question

_MOST_MEMORY = 100


class Trial:
    """What takes back, at the end of a with, whatever was done to a house inside."""

    def __init__(self, house):
        self._house = house
        self._past = None
        self._questions = None
        self._told = None

    def __enter__(self):
        house = self._house
        self._past = house._past
        self._questions = house._questions
        self._told = house._told
        return house

    def __exit__(self, kind, value, trace):
        house = self._house
        house._past = self._past
        house._questions = self._questions
        house._told = self._told


class House:
    """A house of plans and runs."""

    def __init__(self):
        # All of these are replaced and never changed, so a trial can put them back.
        self._past = Past(Stock({}, {}, {}), (), (), (), None, _MOST_MEMORY)
        self._questions = {}
        self._told = {}

    @property
    def plans(self):
        """The plans, by name."""
        found = self._past.stock.plan_by_name
        return {name: found[name] for name in sorted(found)}

    @property
    def runs(self):
        """The runs, by name."""
        found = self._past.stock.run_by_name
        return {name: found[name] for name in sorted(found)}

    @property
    def answers(self):
        """The answers to the questions of the watches, by the names of the watches."""
        return {name: copied(self._told[name]) for name in sorted(self._told)}

    @property
    def memory(self):
        """The greatest number of groups that can be undone."""
        return self._past.most

    @memory.setter
    def memory(self, value):
        self.set_memory(value)

    def set_memory(self, most):
        """Sets the greatest number of groups that can be undone."""
        if not is_between(most, 0, _MOST_MEMORY):
            raise InvalidNumber(most)
        self._past = self._past.with_memory(most)

    def watch(self, name, question):
        """Adds or replaces a question under a watch name."""
        if not is_name(name) or not is_watch_question(question):
            raise InvalidOperation("a watch has a name and a question")
        self._told = {**self._told, name: answer_in(question, self._past.stock)}
        self._questions = {**self._questions, name: question}

    def unwatch(self, name):
        """Removes the question under a watch name."""
        if not is_name(name):
            raise InvalidOperation("this is no name")
        if name not in self._questions:
            raise UnknownName(name)
        self._told = {other: self._told[other] for other in self._told if other != name}
        self._questions = {other: self._questions[other] for other in self._questions if other != name}

    def news(self):
        """Yields the watches whose answers the last group changed, with the old and the new answer."""
        past, questions, told = self._past, self._questions, self._told
        if past.before is not None:
            for name in sorted(questions):
                asked = questions[name][1]
                if past.before.find_any(asked) != past.stock.find_any(asked):
                    old = answer_in(questions[name], past.before)
                    if old != told[name]:
                        yield name, copied(old), copied(told[name])

    def apply(self, *edits):
        """Makes these edits as a group; returns the number of groups in effect."""
        return self.apply_all(edits)

    def apply_all(self, edits):
        """Makes the edits of a tuple as a group; returns the number of groups in effect."""
        if not isinstance(edits, tuple):
            raise InvalidEdit("edits are a tuple")
        if len(edits) > 0:
            self._go_to(self._past.with_group(edits, edited(self._past.stock, edits)))
        return len(self._past.groups)

    def undo(self, *, count=1):
        """Takes back the last groups; returns the number of groups in effect."""
        past = self._past
        _check_count(count, len(past.earlier))
        for _ in range(count):
            past = past.undone()
        self._go_to(past)
        return len(past.groups)

    def redo(self, *, count=1):
        """Makes undone groups again; returns the number of groups in effect."""
        past = self._past
        _check_count(count, len(past.later))
        for _ in range(count):
            past = past.redone()
        self._go_to(past)
        return len(past.groups)

    def log(self):
        """The groups in effect."""
        return self._past.groups

    def tried(self, *edits):
        """The answers that there would be behind the group of these edits."""
        stock = self._past.stock
        told = answers_behind(self._questions, edited(stock, edits), stock, self._told)
        return {name: copied(told[name]) for name in told}

    def trial(self):
        """What takes back, at the end of a with, whatever was done to the house inside."""
        return Trial(self)

    def during(self, call):
        """Calls with this house, and takes back whatever the call did to it."""
        past, questions, told = self._past, self._questions, self._told
        try:
            return call(self)
        finally:
            self._past = past
            self._questions = questions
            self._told = told

    def twin(self):
        """An independent house in the same state."""
        other = House()
        other._past = self._past
        other._questions = self._questions
        other._told = self._told
        return other

    def __getitem__(self, name):
        found = self._past.stock.find_any(name)
        if found is None:
            raise UnknownName(name)
        return found

    def __iter__(self):
        raise TypeError("a house is not iterated")

    def __contains__(self, value):
        return self._past.stock.find_any(value) is not None

    def __len__(self):
        return len(self._past.stock.names())

    def __eq__(self, other):
        if not isinstance(other, House) or self.log() != other.log():
            return False
        return self.plans == other.plans and self.runs == other.runs

    def __str__(self):
        return f"house of {len(self.plans)} plans, {len(self.runs)} runs"

    def _go_to(self, past):
        """Goes to another past, with the answers in its stock."""
        told = answers_behind(self._questions, past.stock, self._past.stock, self._told)
        self._told = told
        self._past = past


def _check_count(count, most):
    if not is_integer(count) or count < 0:
        raise InvalidNumber(count)
    if count > most:
        raise NothingToUndo(count)
