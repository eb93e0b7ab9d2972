"""Plans decided: for each plan either a table paper or a refutation."""

from heardlate.base.arcs import numbers_paper
from heardlate.errors import Refuted, UnknownName
from heardlate.facts.derivations import derive
from heardlate.facts.refutations import is_refutation, refutation_of
from heardlate.facts.tables import is_table_paper, table_arcs
from heardlate.plans.plans import check_plan


def paper_of(plan):
    """A table paper of the plan if it is driven, otherwise a refutation of it."""
    derivation = derive(plan)
    if derivation.ring() is not None:
        return refutation_of(derivation)
    return _table_paper(plan, derivation)


def is_paper(plan, value):
    """Whether the value is a table paper or a refutation of the plan."""
    return is_table_paper(plan, value) or is_refutation(plan, value)


def is_driven(plan):
    """Whether there is a safe driver of the plan."""
    return derive(plan).ring() is None


def implied(plan, first, second):
    """The plain number of the derived table for two points."""
    check_plan(plan)
    for point in (first, second):
        if point not in plan.points:
            raise UnknownName(point)
    plain, _ = table_of_driven(plan)
    return plain[(first, second)]


def same_tables(plan, other):
    """Whether two plans have the same points and steps, and the same derived table or both none."""
    check_plan(plan)
    check_plan(other)
    if plan.points != other.points or plan.steps != other.steps:
        return False
    one = derive(plan)
    two = derive(other)
    if one.ring() is not None or two.ring() is not None:
        return one.ring() is not None and two.ring() is not None
    return one.table() == two.table()


def derived_paper(plan):
    """A table paper with the derived table."""
    return _table_paper(plan, _derive_driven(plan))


def check_driven(plan):
    """Raises an error if this is not a plan, or if it is refuted."""
    _derive_driven(plan)


def table_of_driven(plan):
    """The derived table of a driven plan."""
    return _derive_driven(plan).table()


def _derive_driven(plan):
    derivation = derive(plan)
    if derivation.ring() is not None:
        raise Refuted(refutation_of(derivation))
    return derivation


def _table_paper(plan, derivation):
    plain, late = derivation.table()
    # The derived table of a driven plan has numbers, for without a ring there are some.
    _, numbers = numbers_paper(table_arcs(plan, plain, late))
    return "table", plain, late, numbers
