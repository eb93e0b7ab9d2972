"""Margins: how far one number of a plan can go before the plan is refuted."""

from heardlate.base.integers import is_integer
from heardlate.errors import InvalidNumber, InvalidOperation, Refuted, UnknownName
from heardlate.facts.decided import is_driven, paper_of
from heardlate.facts.refutations import is_refutation, refutation
from heardlate.facts.tables import is_table_paper
from heardlate.plans.checks import MAX_BOUND, MAX_DURATION
from heardlate.plans.plans import Plan, check_plan, least_bounds

_LAST_DELAY = 98
_LAST_TICK = 198


def changed(plan, question, number):
    """The plan with this value of a question."""
    if not _is_one_of(_values_of(plan, question), number):
        raise InvalidNumber(number)
    return _with_value(plan, question, number)


def margin(plan, question):
    """The strictest value of a question with which the plan is driven."""
    values = _values_of(plan, question)
    return values[_last_driven(plan, question, values)]


def margin_paper(plan, question):
    """The margin, a table paper for it, and a refutation for the next stricter value, or None without one."""
    values = _values_of(plan, question)
    place = _last_driven(plan, question, values)
    paper = paper_of(_with_value(plan, question, values[place]))
    if place + 1 == len(values):
        return values[place], paper, None
    return values[place], paper, paper_of(_with_value(plan, question, values[place + 1]))


def is_margin_paper(plan, question, value):
    """Whether the value is a margin paper for a question."""
    values = _values_of(plan, question)
    if not isinstance(value, tuple) or len(value) != 3:
        return False
    number, paper, other = value
    if not _is_one_of(values, number) or not is_table_paper(_with_value(plan, question, number), paper):
        return False
    place = values.index(number)
    if place + 1 == len(values):
        return other is None
    return is_refutation(_with_value(plan, question, values[place + 1]), other)


def latest_time(plan, point):
    """The least tick by which a driver can promise that the point happens."""
    check_plan(plan)
    if point not in plan.points:
        raise UnknownName(point)
    if point == "start":
        raise InvalidOperation("the start happens at tick 0")
    return margin(plan, ("bound", "start", point))


def promised_end(plan):
    """The least tick by which a driver can promise that all points happen."""
    return margin(plan, ("all",))


def _values_of(plan, question):
    """All values of a question, from mild to strict."""
    check_plan(plan)
    if not _is_question(plan, question):
        raise InvalidOperation("this is no question for the plan")
    word = question[0]
    if word == "bound":
        return tuple(range(MAX_BOUND, -MAX_BOUND - 1, -1))
    if word == "all":
        return tuple(range(_LAST_TICK, -1, -1))
    if word == "delay":
        return tuple(range(_LAST_DELAY + 1)) + (None,)
    _, _, least, most, _ = plan.step(question[1])
    if word == "least":
        return tuple(range(most, 0, -1))
    return tuple(range(least, MAX_DURATION + 1))


def _is_question(plan, value):
    if not isinstance(value, tuple) or len(value) == 0:
        return False
    if len(value) == 1:
        return value[0] == "all"
    if len(value) == 2:
        return value[0] in ("delay", "least", "most") and value[1] in plan.ends
    if len(value) != 3 or value[0] != "bound":
        return False
    return value[1] in plan.points and value[2] in plan.points and value[1] != value[2]


def _is_one_of(values, number):
    # True and 1 are equal, but True is no value.
    return (number is None or is_integer(number)) and number in values


def _with_value(plan, question, number):
    """The plan with a value that is one of those of the question."""
    word = question[0]
    if word == "bound":
        return plan.with_bound(question[1], question[2], number)
    if word == "all":
        return _ended_by(plan, number)
    if word == "delay":
        return plan.with_delay(question[1], number)
    end, _, least, most, _ = plan.step(question[1])
    if word == "least":
        return plan.with_span(end, number, most)
    return plan.with_span(end, least, number)


def _ended_by(plan, tick):
    """The plan in which all points happen up to this tick."""
    bounds = plan.bounds + tuple([("start", point, tick) for point in plan.points if point != "start"])
    return Plan(plan.horizon, events=plan.events, steps=plan.steps, bounds=least_bounds(bounds))


def _last_driven(plan, question, values):
    """The place of the strictest value with which the plan is driven."""
    mildest = _with_value(plan, question, values[0])
    if not is_driven(mildest):
        raise Refuted(refutation(mildest))
    low = 0
    high = len(values)
    # With each value up to low the plan is driven, with each one from high on it is not.
    while high - low > 1:
        middle = (low + high) // 2
        if is_driven(_with_value(plan, question, values[middle])):
            low = middle
        else:
            high = middle
    return low
