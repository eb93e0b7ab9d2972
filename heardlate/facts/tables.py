"""Tables: numbers for all facts of a plan at once, and the closed ones, which show that a plan is driven."""

from heardlate.base.arcs import numbers_paper
from heardlate.base.integers import is_integer
from heardlate.errors import InvalidNumber, InvalidTable
from heardlate.facts.derivations import Derivation, derive
from heardlate.facts.facts import check_fact, given_facts
from heardlate.plans.plans import check_plan


def is_table(plan, value):
    """Whether the value is a table of the plan."""
    check_plan(plan)
    if not isinstance(value, tuple) or len(value) != 2:
        return False
    plain, late = value
    return _has_numbers(plain, plan.points, plan.points) and _has_numbers(late, plan.points, plan.ends)


def is_closed(plan, plain, late):
    """Whether the table meets all given facts and everything that one use of a rule derives."""
    return open_rule(plan, plain, late) is None


def open_rule(plan, plain, late):
    """A rule, the facts to which it applies, and the fact whose number is greater than what follows; or None."""
    check_table(plan, plain, late)
    given = given_facts(plan)
    for fact in given:
        if plain[fact[1:]] > given[fact]:
            return "given", (), fact
    found = _open_chain(plan, plain)
    if found is None:
        found = _open_late(plan, plain, late)
    if found is None:
        found = _open_early(plan, plain, late)
    if found is None:
        found = _open_release(plan, plain, late)
    return found


def table_numbers(plan, plain, late):
    """Numbers of a table, or None."""
    check_table(plan, plain, late)
    word, shown = numbers_paper(table_arcs(plan, plain, late))
    if word == "ring":
        return None
    return shown


def is_table_paper(plan, value):
    """Whether the value is a closed table with numbers of it."""
    check_plan(plan)
    if not isinstance(value, tuple) or len(value) != 4 or value[0] != "table":
        return False
    _, plain, late, numbers = value
    if not is_table(plan, (plain, late)) or not _are_numbers(plan, plain, late, numbers):
        return False
    return is_closed(plan, plain, late)


def derived_table(plan):
    """The greatest closed table that has numbers, or None."""
    return _table_of(derive(plan))


def narrowed(plan, plain, late, fact, most):
    """The greatest closed table that has numbers, is at most this closed one, and at most so much for a fact."""
    if not is_closed(plan, plain, late):
        raise InvalidTable("the table is not closed")
    check_fact(plan, fact)
    if not is_integer(most):
        raise InvalidNumber(most)
    begun = {("plain", first, second): plain[(first, second)] for first, second in plain}
    for first, end in late:
        begun[("late", first, end)] = late[(first, end)]
    begun[fact] = min(begun[fact], most)
    return _table_of(Derivation(plan, begun))


def check_table(plan, plain, late):
    """Raises an error if this is not a plan, or these are not a table of it."""
    if not is_table(plan, (plain, late)):
        raise InvalidTable("a table has integers for all pairs of points and all pairs of a point and an end")


def table_arcs(plan, plain, late):
    """The arcs that numbers of a table fulfil."""
    arcs = [(first, second, plain[(first, second)]) for first, second in plain]
    for first, end in late:
        arcs.append((first, plan.step(end)[1], late[(first, end)]))
    return tuple(arcs)


def _table_of(derivation):
    if derivation.ring() is not None:
        return None
    return derivation.table()


def _has_numbers(value, firsts, seconds):
    """Whether the value is a dict from exactly these pairs to integers."""
    if not isinstance(value, dict) or len(value) != len(firsts) * len(seconds):
        return False
    pairs = [(first, second) for first in firsts for second in seconds]
    return all([pair in value and is_integer(value[pair]) for pair in pairs])


def _are_numbers(plan, plain, late, value):
    if not isinstance(value, dict) or len(value) != len(plan.points):
        return False
    if not all([point in value and is_integer(value[point]) for point in plan.points]):
        return False
    return all([value[second] <= value[first] + most for first, second, most in table_arcs(plan, plain, late)])


def _open_chain(plan, plain):
    for first in plan.points:
        for middle in plan.points:
            value = plain[(first, middle)]
            for last in plan.points:
                if plain[(first, last)] > value + plain[(middle, last)]:
                    return "chain", (("plain", first, middle), ("plain", middle, last)), ("plain", first, last)
    return None


def _open_late(plan, plain, late):
    """Where the rule late or through gives less than a number of the table."""
    for end, _, _, most, _ in plan.steps:
        for first in plan.points:
            fact = ("late", first, end)
            if late[(first, end)] > plain[(first, end)] - most:
                return "late", (("plain", first, end),), fact
            for middle in plan.points:
                if late[(first, end)] > plain[(first, middle)] + late[(middle, end)]:
                    return "through", (("plain", first, middle), ("late", middle, end)), fact
    return None


def _open_early(plan, plain, late):
    for end, begin, least, _, delay in plan.steps:
        for word, numbers, lasts in (("plain", plain, plan.points), ("late", late, plan.ends)):
            for last in lasts:
                value = numbers[(end, last)]
                applies = last != end and (delay is None or value < delay)
                if applies and numbers[(begin, last)] > least + value:
                    return "early", ((word, end, last),), (word, begin, last)
    return None


def _open_release(plan, plain, late):
    for end, begin, least, _, delay in plan.steps:
        for first in plan.points:
            value = late[(first, end)]
            if delay is not None:
                value = max(value, -(least + delay))
            if first != end and plain[(first, begin)] > value:
                return "release", (("late", first, end),), ("plain", first, begin)
    return None
