"""Tasks: work of the driver and of others, in rows and beside one another, and the plans to which it is compiled."""

from heardlate.base.integers import is_between, is_integer
from heardlate.base.names import is_name
from heardlate.errors import InvalidNumber, InvalidOperation, InvalidTask, ParseError
from heardlate.plans.checks import MAX_DURATION, is_delay
from heardlate.plans.plans import MAX_HORIZON, Plan, least_bounds
from heardlate.tasks.reading import tree_in
from heardlate.tasks.trees import (
    are_kept_by, begin_of, bounds_of, depth_of, finish_of, joined, leaves_in, names_in, text_of,
)

MAX_LEAVES = 8
MAX_NEST = 6

_LONGEST_NAME = 6
_MOST_TICKS = 99
_RULE_SIZES = {"after": 4, "soon": 4, "together": 3}


class Task:
    """The base of all tasks, which is not called itself."""

    @classmethod
    def read(cls, text):
        """The task with this text."""
        try:
            return _task_of(tree_in(text, MAX_NEST))
        except InvalidTask:
            raise ParseError("this is not the text of a task") from None


class Own(Task):
    """Work that the driver begins and ends."""

    def __init__(self, name, least, most):
        _check_leaf(name, least, most, 0)
        self._tree = ("own", name, least, most)

    @property
    def leaves(self):
        """The names of the leaves, in the order of the text."""
        return names_in(self._tree)

    def keeps(self, spans):
        """Whether spans keep the task."""
        return _is_kept(self._tree, spans)

    def within(self, most):
        """The task that takes at most so many ticks."""
        return Within(self, most)

    def __rshift__(self, other):
        return Row(self, other)

    def __and__(self, other):
        return Beside(self, other)

    def __len__(self):
        return len(names_in(self._tree))

    def __contains__(self, value):
        return value in names_in(self._tree)

    def __eq__(self, other):
        return isinstance(other, Own) and self._tree == other._tree

    def __str__(self):
        return str(text_of(self._tree))


class Other(Task):
    """Work that the driver begins and others end."""

    def __init__(self, name, least, most, *, delay=0):
        _check_leaf(name, least, most, 1)
        if not is_delay(delay):
            raise InvalidTask("a delay is an integer from 0 to 99, or None")
        self._tree = ("other", name, least, most, delay)

    @property
    def leaves(self):
        """The names of the leaves, in the order of the text."""
        return names_in(self._tree)

    def keeps(self, spans):
        """Whether spans keep the task."""
        return _is_kept(self._tree, spans)

    def within(self, most):
        """The task that takes at most so many ticks."""
        return Within(self, most)

    def __rshift__(self, other):
        return Row(self, other)

    def __and__(self, other):
        return Beside(self, other)

    def __len__(self):
        return len(names_in(self._tree))

    def __contains__(self, value):
        return value in names_in(self._tree)

    def __eq__(self, other):
        return isinstance(other, Other) and self._tree == other._tree

    def __str__(self):
        return str(text_of(self._tree))


class Row(Task):
    """Tasks one behind another."""

    def __init__(self, *tasks):
        self._tree = _joined_tree("row", tasks)

    @property
    def leaves(self):
        """The names of the leaves, in the order of the text."""
        return names_in(self._tree)

    def keeps(self, spans):
        """Whether spans keep the task."""
        return _is_kept(self._tree, spans)

    def within(self, most):
        """The task that takes at most so many ticks."""
        return Within(self, most)

    def __rshift__(self, other):
        return Row(self, other)

    def __and__(self, other):
        return Beside(self, other)

    def __len__(self):
        return len(names_in(self._tree))

    def __contains__(self, value):
        return value in names_in(self._tree)

    def __eq__(self, other):
        return isinstance(other, Row) and self._tree == other._tree

    def __str__(self):
        return str(text_of(self._tree))


class Beside(Task):
    """Tasks beside one another."""

    def __init__(self, *tasks):
        self._tree = _joined_tree("beside", tasks)

    @property
    def leaves(self):
        """The names of the leaves, in the order of the text."""
        return names_in(self._tree)

    def keeps(self, spans):
        """Whether spans keep the task."""
        return _is_kept(self._tree, spans)

    def within(self, most):
        """The task that takes at most so many ticks."""
        return Within(self, most)

    def __rshift__(self, other):
        return Row(self, other)

    def __and__(self, other):
        return Beside(self, other)

    def __len__(self):
        return len(names_in(self._tree))

    def __contains__(self, value):
        return value in names_in(self._tree)

    def __eq__(self, other):
        return isinstance(other, Beside) and self._tree == other._tree

    def __str__(self):
        return str(text_of(self._tree))


class Within(Task):
    """A task that takes at most so many ticks from its first begin to its last finish."""

    def __init__(self, task, most):
        _check_task(task)
        if not is_between(most, 0, _MOST_TICKS):
            raise InvalidTask("a task takes at most 0 to 99 ticks")
        self._tree = _checked_tree(("within", task._tree, most))

    @property
    def leaves(self):
        """The names of the leaves, in the order of the text."""
        return names_in(self._tree)

    def keeps(self, spans):
        """Whether spans keep the task."""
        return _is_kept(self._tree, spans)

    def within(self, most):
        """The task that takes at most so many ticks."""
        return Within(self, most)

    def __rshift__(self, other):
        return Row(self, other)

    def __and__(self, other):
        return Beside(self, other)

    def __len__(self):
        return len(names_in(self._tree))

    def __contains__(self, value):
        return value in names_in(self._tree)

    def __eq__(self, other):
        return isinstance(other, Within) and self._tree == other._tree

    def __str__(self):
        return str(text_of(self._tree))


def compiled(task, *, horizon=MAX_HORIZON, rules=()):
    """The plan with a begin and a finish for each leaf, whose bounds times keep if they keep the task and the rules."""
    _check_task(task)
    if not is_between(horizon, 0, MAX_HORIZON):
        raise InvalidNumber(horizon)
    if not isinstance(rules, tuple) or not all([_is_rule(rule, task.leaves) for rule in rules]):
        raise InvalidOperation("rules are a tuple of rules over different leaves")
    events = [begin_of(name) for name in task.leaves]
    steps = []
    for leaf in leaves_in(task._tree):
        if leaf[0] == "own":
            events.append(finish_of(leaf[1]))
        else:
            steps.append((finish_of(leaf[1]), begin_of(leaf[1]), leaf[2], leaf[3], leaf[4]))
    bounds = bounds_of(task._tree)
    for rule in rules:
        bounds.extend(_rule_bounds(rule))
    return Plan(horizon, events=tuple(events), steps=tuple(steps), bounds=least_bounds(bounds))


def _check_leaf(name, least, most, shortest):
    if not is_name(name) or len(name) > _LONGEST_NAME:
        raise InvalidTask("the name of a leaf has one to six letters")
    if not is_between(most, shortest, MAX_DURATION) or not is_between(least, shortest, most):
        raise InvalidTask("a span has a least and a greatest duration")


def _check_task(value):
    if not isinstance(value, (Own, Other, Row, Beside, Within)):
        raise InvalidTask("this is not a task")


def _checked_tree(tree):
    """The tree, if it is not too large for a task."""
    names = names_in(tree)
    if len(names) > MAX_LEAVES or len(set(names)) < len(names) or depth_of(tree) > MAX_NEST:
        raise InvalidTask("a task has at most eight different leaves and is nested at most six deep")
    return tree


def _joined_tree(word, tasks):
    for task in tasks:
        _check_task(task)
    if len(tasks) < 2:
        raise InvalidTask("there are fewer than two tasks")
    return _checked_tree(joined(word, [task._tree for task in tasks]))


def _task_of(tree):
    """The task with this tree."""
    if tree[0] == "own":
        return Own(tree[1], tree[2], tree[3])
    if tree[0] == "other":
        return Other(tree[1], tree[2], tree[3], delay=tree[4])
    if tree[0] == "within":
        return Within(_task_of(tree[1]), tree[2])
    parts = [_task_of(part) for part in tree[1]]
    if tree[0] == "row":
        return Row(*parts)
    return Beside(*parts)


def _is_kept(tree, spans):
    names = names_in(tree)
    if not isinstance(spans, dict) or len(spans) != len(names):
        raise InvalidOperation("spans are a dict from exactly the names of the leaves")
    if not all([name in spans and _is_span(spans[name]) for name in names]):
        raise InvalidOperation("spans are pairs of integers of at least 0")
    return are_kept_by(tree, spans)


def _is_span(value):
    if not isinstance(value, tuple) or len(value) != 2:
        return False
    return all([is_integer(tick) and tick >= 0 for tick in value])


def _is_rule(value, names):
    if not isinstance(value, tuple) or len(value) < 3 or not isinstance(value[0], str):
        return False
    if value[0] not in _RULE_SIZES or len(value) != _RULE_SIZES[value[0]]:
        return False
    if value[1] not in names or value[2] not in names or value[1] == value[2]:
        return False
    return len(value) == 3 or is_between(value[3], -_MOST_TICKS, _MOST_TICKS)


def _rule_bounds(rule):
    """The bounds that say what a rule says."""
    first, second = rule[1], rule[2]
    if rule[0] == "together":
        return [(begin_of(first), begin_of(second), 0), (begin_of(second), begin_of(first), 0)]
    if rule[0] == "soon":
        return [(finish_of(first), begin_of(second), rule[3])]
    return [(begin_of(second), finish_of(first), -rule[3])]
