"""Idle bounds, which a driver keeps without being asked, and cores, which no driver can keep."""

from heardlate.base.integers import is_integer
from heardlate.errors import Driven, InvalidOperation
from heardlate.facts.decided import check_driven, implied, is_driven, paper_of, table_of_driven
from heardlate.plans.plans import Plan, check_plan


def is_idle(plan, first, second):
    """Whether the plan without this bound has the same derived table."""
    check_plan(plan)
    most = plan.bound(first, second)
    if most is None:
        raise InvalidOperation("there is no bound for this pair")
    check_driven(plan)
    return _is_idle(plan, (first, second, most))


def idle_bounds(plan):
    """The idle bounds, ascending."""
    check_driven(plan)
    return tuple([bound for bound in plan.bounds if _is_idle(plan, bound)])


def thinned(plan):
    """The plan from which idle bounds are left out, one after another in ascending order."""
    check_driven(plan)
    left = plan
    for bound in plan.bounds:
        # A bound that is not idle stays so if others are left out.
        if _is_idle(left, bound):
            left = left.without_bound(bound[0], bound[1])
    return left


def tightened(plan):
    """The plan in which each bound has the number of the derived table."""
    plain, _ = table_of_driven(plan)
    return _with_bounds(plan, [(first, second, plain[(first, second)]) for first, second, _ in plan.bounds])


def core(plan):
    """Bounds, ascending, such that the plan with these alone is refuted, and driven without any one of them."""
    paper = paper_of(plan)
    if paper[0] == "table":
        raise Driven(paper)
    # What a refutation does not use can be left out at once.
    given = [row[0] for row in paper[1] if row[2] == "given"]
    found = [bound for bound in plan.bounds if ("plain", bound[0], bound[1]) in given]
    for bound in list(found):
        others = _all_but(found, bound)
        if not is_driven(_with_bounds(plan, others)):
            found = others
    return tuple(found)


def is_core(plan, value):
    """Whether the value is a core."""
    check_plan(plan)
    if not isinstance(value, tuple) or not all([_is_bound_of(plan, bound) for bound in value]):
        return False
    if not all([first < second for first, second in zip(value, value[1:])]) or is_driven(_with_bounds(plan, value)):
        return False
    return all([is_driven(_with_bounds(plan, _all_but(value, bound))) for bound in value])


def _is_idle(plan, bound):
    """Whether the table of a driven plan without this bound has at most its number."""
    first, second, most = bound
    return implied(plan.without_bound(first, second), first, second) <= most


def _is_bound_of(plan, value):
    # A bound with True in the place of 1 would be equal to one of the plan.
    return value in plan.bounds and is_integer(value[2])


def _all_but(bounds, bound):
    return [other for other in bounds if other != bound]


def _with_bounds(plan, bounds):
    """The plan with these bounds alone."""
    return Plan(plan.horizon, events=plan.events, steps=plan.steps, bounds=tuple(bounds))
