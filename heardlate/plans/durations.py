"""Durations: dicts from exactly the ends of a plan to durations of their steps."""

from heardlate.base.integers import is_between
from heardlate.errors import InvalidDurations, TooMany
from heardlate.plans.plans import check_plan

MAX_CHOICES = 5000


def is_durations(plan, value):
    """Whether the value is durations of the plan."""
    check_plan(plan)
    if not isinstance(value, dict) or len(value) != len(plan.steps):
        return False
    return all([step[0] in value and is_between(value[step[0]], step[2], step[3]) for step in plan.steps])


def check_durations(plan, durations):
    """Raises an error if these are not durations of the plan."""
    if not is_durations(plan, durations):
        raise InvalidDurations("durations are a dict from exactly the ends to numbers within their spans")


def count_durations(plan):
    """How many durations of the plan there are."""
    check_plan(plan)
    many = 1
    for step in plan.steps:
        many = many * (step[3] - step[2] + 1)
    return many


def all_durations(plan):
    """Yields all durations; those of the first end change most slowly."""
    many = count_durations(plan)
    if many > MAX_CHOICES:
        raise TooMany(MAX_CHOICES)
    numbers = {step[0]: tuple(range(step[2], step[3] + 1)) for step in plan.steps}
    for index in range(many):
        yield _durations_at(numbers, many, index)


def extremes(plan):
    """Yields the durations in which each one is the least or the greatest of its step, in the same order."""
    check_plan(plan)
    numbers = {step[0]: tuple(sorted({step[2], step[3]})) for step in plan.steps}
    many = 1
    for end in numbers:
        many = many * len(numbers[end])
    for index in range(many):
        yield _durations_at(numbers, many, index)


def _durations_at(numbers, many, index):
    """Of so many durations that take one of the numbers of each end, those at the index."""
    durations = {}
    for end in numbers:
        many = many // len(numbers[end])
        durations[end] = numbers[end][index // many]
        index = index % many
    return durations
