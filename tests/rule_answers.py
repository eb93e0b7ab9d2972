"""Slow and plain answers about facts: the rules as the document's table has them, used one after another."""

import random

from tests.arc_answers import names_of

RULES = ("chain", "late", "through", "early", "release")


def given(plan):
    """The given facts with the least of their values."""
    found = [(("plain", u, v), w) for u, v, w in plan.bounds]
    for end, begin, least, most, _ in plan.steps:
        found += [(("plain", begin, end), most), (("plain", end, begin), -least)]
    for event in plan.events:
        found += [(("plain", "start", event), plan.horizon), (("plain", event, "start"), 0)]
    found += [(("plain", point, point), 0) for point in plan.points]
    return {fact: min(value for other, value in found if other == fact) for fact in sorted(dict(found))}


def facts_of(plan):
    plain = [("plain", u, v) for u in plan.points for v in plan.points]
    return plain + [("late", u, c) for u in plan.points for c in plan.ends]


def step_of(plan, end):
    return [step for step in plan.steps if step[0] == end][0]


def gives(plan, rule, rows):
    """What a rule gives from rows, or None."""
    kinds = [row[0][0] for row in rows]
    values = [row[1] for row in rows]
    if rule == "chain" and kinds == ["plain", "plain"] and rows[0][0][2] == rows[1][0][1]:
        return ("plain", rows[0][0][1], rows[1][0][2]), sum(values)
    if rule == "through" and kinds == ["plain", "late"] and rows[0][0][2] == rows[1][0][1]:
        return ("late", rows[0][0][1], rows[1][0][2]), sum(values)
    if rule == "late" and kinds == ["plain"] and rows[0][0][2] in plan.ends:
        return ("late", *rows[0][0][1:]), values[0] - step_of(plan, rows[0][0][2])[3]
    if rule == "early" and len(rows) == 1 and rows[0][0][1] in plan.ends:
        end, begin, least, most, delay = step_of(plan, rows[0][0][1])
        if rows[0][0][2] != end and (delay is None or values[0] < delay):
            return (kinds[0], begin, rows[0][0][2]), least + values[0]
    if rule == "release" and kinds == ["late"] and rows[0][0][1] != rows[0][0][2]:
        end, begin, least, most, delay = step_of(plan, rows[0][0][2])
        return ("plain", rows[0][0][1], begin), values[0] if delay is None else max(values[0], -(least + delay))
    return None


def uses(plan, facts):
    """All pairs of a rule and facts to which it may apply."""
    for rule in ("late", "early", "release"):
        for fact in facts:
            yield rule, (fact,)
    for one in facts:
        for other in facts:
            if one[0] == "plain" and one[2] == other[1]:
                yield "chain" if other[0] == "plain" else "through", (one, other)


def first_open(plan, values):
    """A use of a rule that gives less than the value of its fact, or a given fact that is not met; or None."""
    for fact, value in given(plan).items():
        if values[fact] > value:
            return "given", (), fact
    for rule, facts in uses(plan, facts_of(plan)):
        found = gives(plan, rule, [(fact, values[fact]) for fact in facts])
        if found and values[found[0]] > found[1]:
            return rule, facts, found[0]
    return None


def have_ring(plan, values):
    """Whether no numbers fulfil the facts with these values."""
    arcs = []
    for (word, u, v), w in values.items():
        arcs.append((u, v if word == "plain" else step_of(plan, v)[1], w))
    sums = {name: 0 for name in names_of(arcs)}
    for _ in range(len(sums) + 1):
        before = dict(sums)
        for u, v, w in arcs:
            sums[v] = min(sums[v], sums[u] + w)
    return sums != before


def closure(plan, seed, begun=None):
    """The values of all facts that follow, if the rules are used in some order; None if there is a ring."""
    values = dict(given(plan) if begun is None else begun)
    every = list(uses(plan, facts_of(plan)))
    random.Random(seed).shuffle(every)
    changed = True
    while changed:
        changed = False
        if have_ring(plan, values):
            return None
        for rule, facts in every:
            if all(fact in values for fact in facts):
                found = gives(plan, rule, [(fact, values[fact]) for fact in facts])
                if found and (found[0] not in values or values[found[0]] > found[1]):
                    values[found[0]] = found[1]
                    changed = True
    return values


def table_of(values):
    """The table with these values of all facts."""
    plain = {fact[1:]: value for fact, value in values.items() if fact[0] == "plain"}
    return plain, {fact[1:]: value for fact, value in values.items() if fact[0] == "late"}


def values_of(plain, late):
    return {**{("plain", *pair): plain[pair] for pair in plain}, **{("late", *pair): late[pair] for pair in late}}


def is_refutation(plan, value):
    """Whether a value that has the form of a refutation is one."""
    _, rows, ring = value
    start = given(plan)
    for index, (fact, worth, rule, sources) in enumerate(rows):
        if any(type(source) is not int or not 0 <= source < index for source in sources) or type(worth) is not int:
            return False
        if rule == "given":
            if sources != () or start.get(fact) != worth:
                return False
        elif gives(plan, rule, [rows[source][:2] for source in sources]) != (fact, worth):
            return False
    if ring == () or any(type(index) is not int or not 0 <= index < len(rows) for index in ring):
        return False
    leads = []
    for index in ring:
        word, u, v = rows[index][0]
        leads.append((u, v if word == "plain" else step_of(plan, v)[1], rows[index][1]))
    if any(one[1] != other[0] for one, other in zip(leads, leads[1:] + leads[:1])):
        return False
    return sum(one[2] for one in leads) < 0
