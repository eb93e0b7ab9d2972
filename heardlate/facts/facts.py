"""Facts: inequalities that hold in all runs of safe drivers, and the rules by which they are derived."""

from heardlate.base.integers import is_integer
from heardlate.errors import InvalidNumber, InvalidTable, UnknownName
from heardlate.plans.plans import check_plan
from heardlate.plans.times import check_times

RULES = ("chain", "late", "through", "early", "release")


def given_facts(plan):
    """The given facts and their values; of several values for one fact the least counts."""
    check_plan(plan)
    rows = [(first, second, most) for first, second, most in plan.bounds]
    for end, begin, least, most, _ in plan.steps:
        rows.append((begin, end, most))
        rows.append((end, begin, -least))
    for event in plan.events:
        rows.append(("start", event, plan.horizon))
        rows.append((event, "start", 0))
    values = {("plain", point, point): 0 for point in plan.points}
    for first, second, most in rows:
        fact = ("plain", first, second)
        values[fact] = min(most, values.get(fact, most))
    return {fact: values[fact] for fact in sorted(values)}


def is_fact(plan, value):
    """Whether the value is a fact of the plan."""
    check_plan(plan)
    if not isinstance(value, tuple) or len(value) != 3 or value[1] not in plan.points:
        return False
    if value[0] == "plain":
        return value[2] in plan.points
    return value[0] == "late" and value[2] in plan.ends


def derived(plan, rule, *rows):
    """The fact and the value that a rule gives from rows; None if it does not apply to them."""
    check_plan(plan)
    if rule not in RULES:
        raise UnknownName(rule)
    for row in rows:
        if not _is_row(plan, row):
            raise InvalidTable("a row is a pair of a fact of the plan and an integer")
    return follows(plan, rule, rows)


def fact_holds(plan, fact, most, times):
    """Whether the inequality of a fact with this value holds in these times."""
    check_fact(plan, fact)
    if not is_integer(most):
        raise InvalidNumber(most)
    check_times(plan, times)
    word, first, second = fact
    if word == "late":
        second = plan.step(second)[1]
    return times[second] <= times[first] + most


def check_fact(plan, fact):
    """Raises an error if this is not a plan, or not a fact of it."""
    if not is_fact(plan, fact):
        raise InvalidTable("this is not a fact of the plan")


def follows(plan, rule, rows):
    """The fact and the value that a rule gives from pairs of facts and values; None if it does not apply."""
    if rule == "chain" or rule == "through":
        return _joined(rule, rows)
    if len(rows) != 1:
        return None
    fact, value = rows[0]
    if rule == "late":
        return _late(plan, fact, value)
    if rule == "early":
        return _early(plan, fact, value)
    return _released(plan, fact, value)


def _is_row(plan, value):
    if not isinstance(value, tuple) or len(value) != 2:
        return False
    return is_fact(plan, value[0]) and is_integer(value[1])


def _joined(rule, rows):
    """What follows from a plain fact and a second one that begins where it ends: by chain plain, by through late."""
    if len(rows) != 2:
        return None
    (word, first, middle), value = rows[0]
    (other, begun, last), more = rows[1]
    wanted = "plain" if rule == "chain" else "late"
    if word != "plain" or other != wanted or middle != begun:
        return None
    return (wanted, first, last), value + more


def _late(plan, fact, value):
    word, first, end = fact
    if word != "plain" or end not in plan.ends:
        return None
    return ("late", first, end), value - plan.step(end)[3]


def _early(plan, fact, value):
    word, end, last = fact
    if end not in plan.ends or last == end:
        return None
    _, begin, least, _, delay = plan.step(end)
    if delay is not None and value >= delay:
        return None
    return (word, begin, last), least + value


def _released(plan, fact, value):
    word, first, end = fact
    if word != "late" or first == end:
        return None
    _, begin, least, _, delay = plan.step(end)
    if delay is not None:
        value = max(value, -(least + delay))
    return ("plain", first, begin), value
