"""Refutations: short lists of sums which show that no driver of a plan is safe."""

from heardlate.base.integers import is_between, is_integer
from heardlate.errors import InvalidTable
from heardlate.facts.derivations import derive
from heardlate.facts.facts import RULES, follows, given_facts, is_fact
from heardlate.plans.plans import check_plan


def refutation(plan):
    """A refutation of the plan, or None."""
    check_plan(plan)
    derivation = derive(plan)
    if derivation.ring() is None:
        return None
    return refutation_of(derivation)


def is_refutation(plan, value):
    """Whether the value is a refutation of the plan."""
    check_plan(plan)
    if not isinstance(value, tuple) or len(value) != 3 or value[0] != "refuted":
        return False
    _, rows, ring = value
    return _are_rows(plan, rows) and _is_ring(plan, rows, ring)


def used_rows(plan, value):
    """The indices of the rows from which the ring follows, ascending."""
    _check_refutation(plan, value)
    return _used(value[1], value[2])


def shortened(plan, value):
    """The refutation with just the rows from which the ring follows."""
    _check_refutation(plan, value)
    return _with_used_rows(value[1], value[2])


def refutation_of(derivation):
    """The refutation from a derivation with a ring."""
    return _with_used_rows(derivation.rows(), derivation.ring())


def _check_refutation(plan, value):
    if not is_refutation(plan, value):
        raise InvalidTable("this is not a refutation of the plan")


def _are_rows(plan, value):
    if not isinstance(value, tuple):
        return False
    given = given_facts(plan)
    for index, row in enumerate(value):
        if not isinstance(row, tuple) or len(row) != 4 or not is_fact(plan, row[0]) or not is_integer(row[1]):
            return False
        if not isinstance(row[3], tuple) or not all([is_between(source, 0, index - 1) for source in row[3]]):
            return False
        if not _is_derived(plan, given, value, row):
            return False
    return True


def _is_derived(plan, given, rows, row):
    """Whether the value of a row is just what is given, or what its rule gives from its sources."""
    fact, value, rule, sources = row
    if rule == "given":
        return len(sources) == 0 and fact in given and given[fact] == value
    if rule not in RULES:
        return False
    return follows(plan, rule, [rows[source][:2] for source in sources]) == (fact, value)


def _is_ring(plan, rows, value):
    if not isinstance(value, tuple) or len(value) == 0:
        return False
    if not all([is_between(index, 0, len(rows) - 1) for index in value]):
        return False
    facts = [rows[index][0] for index in value]
    following = facts[1:] + facts[:1]
    if not all([_leads_to(plan, fact) == behind[1] for fact, behind in zip(facts, following)]):
        return False
    return sum([rows[index][1] for index in value]) < 0


def _leads_to(plan, fact):
    """The point to which a row with this fact leads."""
    if fact[0] == "late":
        return plan.step(fact[2])[1]
    return fact[2]


def _used(rows, ring):
    needed = {index: True for index in ring}
    # Sources stand in front of the rows that follow from them, so all rows behind are known to be used or not.
    for index in range(len(rows) - 1, -1, -1):
        if index in needed:
            for source in rows[index][3]:
                needed[source] = True
    return tuple(sorted(needed))


def _with_used_rows(rows, ring):
    used = _used(rows, ring)
    places = {used[place]: place for place in range(len(used))}
    short = []
    for index in used:
        fact, value, rule, sources = rows[index]
        short.append((fact, value, rule, tuple([places[source] for source in sources])))
    return "refuted", tuple(short), tuple([places[index] for index in ring])
