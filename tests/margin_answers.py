"""Slow and plain answers about margins, ends that must be heard, idle bounds and nested plans."""

import itertools

from heardlate.plans.plans import Plan
from tests.game_answers import Game
from tests.rule_answers import closure, table_of


def made(plan, **parts):
    """The plan made anew, with other parts."""
    values = {"horizon": plan.horizon, "events": plan.events, "steps": plan.steps, "bounds": plan.bounds}
    return Plan.of({**values, **parts})


def values_of(plan, question):
    """All values of a question from mild to strict."""
    if question[0] == "bound":
        return [999 - k for k in range(1999)]
    if question[0] == "all":
        return [198 - k for k in range(199)]
    if question[0] == "delay":
        return [*range(99), None]
    least, most = [step[2:4] for step in plan.steps if step[0] == question[1]][0]
    return list(reversed(range(1, most + 1))) if question[0] == "least" else list(range(least, 100))


def changed(plan, question, number):
    """The plan made anew with one value of a question."""
    if question[0] == "bound":
        others = tuple(bound for bound in plan.bounds if bound[:2] != question[1:])
        return made(plan, bounds=(question[1:] + (number,),) + others)
    if question[0] == "all":
        bounds = {bound[:2]: bound[2] for bound in plan.bounds}
        for point in plan.points[1:]:
            bounds[("start", point)] = min(number, bounds.get(("start", point), number))
        return made(plan, bounds=tuple(pair + (most,) for pair, most in bounds.items()))
    place = {"least": 2, "most": 3, "delay": 4}[question[0]]
    steps = []
    for step in plan.steps:
        steps.append(step[:place] + (number,) + step[place + 1:] if step[0] == question[1] else step)
    return made(plan, steps=tuple(steps))


def questions_of(plan):
    for word in ("delay", "least", "most"):
        for end in plan.ends:
            yield word, end
    for pair in itertools.permutations(plan.points, 2):
        yield ("bound",) + pair
    yield ("all",)


def is_driven(plan):
    """Whether a plan has a safe driver, by its game."""
    return Game(plan).is_driven()


def missing(plan, ends):
    """The plan made anew, in which these ends are never heard."""
    return made(plan, steps=tuple(step[:4] + (None,) if step[0] in ends else step for step in plan.steps))


def sets_of(plan):
    """All sets of ends, by size and then ascending."""
    for many in range(len(plan.ends) + 1):
        yield from itertools.combinations(plan.ends, many)


def others(plan, ends):
    return tuple(end for end in plan.ends if end not in ends)


def least(sets):
    """Those sets of which no other one is a part."""
    return tuple(one for one in sets if not any(set(other) < set(one) for other in sets))


def meeting(plan, sets):
    """All least sets of ends that have an end of each of these sets."""
    return least([ends for ends in sets_of(plan) if all(set(ends) & set(other) for other in sets)])


def table(plan):
    """The derived table, by using the rules one after another."""
    values = closure(plan, 3)
    return None if values is None else table_of(values)


def alone(plan, bounds):
    """The plan made anew with these bounds alone."""
    return made(plan, bounds=tuple(bounds))


def nested(outer, end, inner, last):
    """The plan that does the inner plan in the place of a step, made by hand."""
    _, begin, least_span, most_span, _ = [step for step in outer.steps if step[0] == end][0]
    name = {**{point: point for point in inner.points}, "start": begin, last: end}
    bounds = [*outer.bounds, (begin, end, most_span), (end, begin, -least_span)]
    bounds += [(name[first], name[second], most) for first, second, most in inner.bounds]
    bounds += [("start", event, outer.horizon) for event in outer.events]
    for event in inner.events:
        bounds += [(name[event], begin, 0), (begin, name[event], inner.horizon)]
    numbers = {}
    for first, second, most in bounds:
        numbers[(first, second)] = min(most, numbers.get((first, second), 9999))
    steps = [step for step in outer.steps if step[0] != end]
    steps += [(name[step[0]], name[step[1]], *step[2:]) for step in inner.steps]
    return Plan(
        outer.horizon + inner.horizon,
        events=outer.events + tuple(name[event] for event in inner.events),
        steps=tuple(steps),
        bounds=tuple(pair + (most,) for pair, most in numbers.items()),
    )
